/-
  What 'Make' does.
-/
import Derived.Test.YtkgaoafcjhjefaaNumWhole
namespace Go.Proofs.Ytkgaoafcjhjefaa
open Go.RowKit Go.Shelf

theorem told_parts {P Y : Int} {r : Rat} (h1 : r.num = P) (h2 : (r.den : Int) = Y) : (fitB P = true ∧ fitB Y = true ∧ told r = some r ∧ tel P = P ∧ tel Y = Y) ∨ ((fitB P = false ∨ fitB P = true ∧ fitB Y = false) ∧ told r = none) := by
  unfold told rok
  rw [h1, h2]
  cases hP : fitB P
  · exact .inr ⟨.inl rfl, by simp⟩
  · cases hY : fitB Y
    · exact .inr ⟨.inr ⟨rfl, rfl⟩, by simp⟩
    · exact .inl ⟨rfl, rfl, by simp, tel_fit hP, tel_fit hY⟩
theorem num_nat {w : World} {v : Value} {z : Nat} (h : Num w v (z : Int)) : ∃ A n c, v = .agg #[.bool false, .slice A n c] := by
  obtain ⟨A, n, c, e, -⟩ := num_abs h
  rw [decide_eq_false (Int.not_lt.2 (Int.natCast_nonneg _))] at e
  exact ⟨A, n, c, e⟩
theorem Num.set1 {w : World} {v : Value} {z : Int} (h : Num w v z) {b : Nat} {t : Bool} (hb : w.cell? ⟨b, 0, none⟩ = some (.bool t)) (i : Nat) (u : Value) : Num (w.setCell ⟨b, i, none⟩ u) v z := by
  obtain ⟨A, c, ds, h1, h2, h3, h4⟩ := h
  refine ⟨A, c, ds, h1, h2, ?_, h4⟩
  rcases h3 with h0 | ⟨g, rfl, hg, hc⟩
  · exact Or.inl h0
  · by_cases h0 : ds = []
    · exact Or.inl h0
    · have hp : 0 < ds.length := List.length_pos_iff.2 h0
      have hne : b ≠ g := by
        rintro rfl
        have := hc 0 hp
        rw [hb] at this; cases this
      refine Or.inr ⟨g, rfl, by simpa using hg, fun j hj => ?_⟩
      rw [World.cell?_of_block (w := w) (Below.heap_setCell w ⟨b, i, none⟩ u g hne.symm)]
      exact hc j hj
theorem cut_num {w : World} {s t : Bool} {A : Option Addr} {n c : Nat} {z : Int} (h : Num w (.agg #[.bool t, .slice A n c]) z) (hz : Small z) :
    Calls Try.prog 57 #[.agg #[.bool s, .slice A n c]] w fun e w' => (∃ v, e = .returned v ∧ Num w' v (sg s (z.natAbs : Int))) ∧ Below w.heap.size w w' := by
  obtain ⟨-, hn, ds, hl, hL, hd, ht, hv⟩ := num_parts h
  have hlen := len_small hd ht hv hz
  subst hl
  have C := r_cut s A c ds w hL hd hn (by omega)
  rw [hv] at C
  exact C

set_option maxHeartbeats 8000000 in
set_option maxRecDepth 100000 in
theorem r_make (v1 v2 : Value) (z1 z2 : Int) (w : World) (h1 : Num w v1 z1) (h2 : Num w v2 z2) (s1 : Small z1) (s2 : Small z2) :
    Calls Try.prog 27 #[v1, v2] w fun e w' => e = .returned (.tuple #[.int .i64 (vp (makeO z1 z2)), .int .i64 (vq (makeO z1 z2)), .bool (makeO z1 z2).isSome]) ∧ Below w.heap.size w w' := by
  obtain ⟨A, c, n, rfl⟩ := h1.open_
  obtain ⟨B, d, m, rfl⟩ := h2.open_
  rcases num_zero h2 with ⟨h0, hz⟩ | ⟨h0, hz⟩
  · subst h0
    have e : makeO z1 z2 = none := by unfold makeO; rw [if_pos hz]
    rw [e]
    show Calls _ _ _ _ fun e w' => e = .returned (.tuple #[.int .i64 0, .int .i64 0, .bool false]) ∧ _
    clear e
    generalize decide (z1 < 0) = s at *
    generalize decide (z2 < 0) = t at *
    go_enter Try.func27, Try.ntmps27
    go_wp2
    go_ret3
    exact ⟨rfl, bal (bal (Below.refl _ _) _) _⟩
  · have mr := make_rat z1 z2 hz
    have em : makeO z1 z2 = told (Rat.divInt z1 z2) := by unfold makeO; rw [if_neg hz]
    have hgp : 0 < Nat.gcd z1.natAbs z2.natAbs := Nat.gcd_pos_of_pos_right _ (by omega)
    have eX : szI z1 / gcdI z1 z2 = ((z1.natAbs / Nat.gcd z1.natAbs z2.natAbs : Nat) : Int) := by unfold szI gcdI; exact (Int.natCast_ediv _ _).symm
    have eY : szI z2 / gcdI z1 z2 = ((z2.natAbs / Nat.gcd z1.natAbs z2.natAbs : Nat) : Int) := by unfold szI gcdI; exact (Int.natCast_ediv _ _).symm
    rw [eX, eY] at mr
    have hgs : Small ((Nat.gcd z1.natAbs z2.natAbs : Nat) : Int) := by
      unfold Small at s2 ⊢
      have := Nat.gcd_le_right z1.natAbs (show 0 < z2.natAbs by omega)
      simp; omega
    have hXs : Small ((z1.natAbs / Nat.gcd z1.natAbs z2.natAbs : Nat) : Int) := by
      unfold Small at s1 ⊢
      have := Nat.div_le_self z1.natAbs (Nat.gcd z1.natAbs z2.natAbs)
      simp only [Int.natAbs_natCast]; omega
    have hYs : Small ((z2.natAbs / Nat.gcd z1.natAbs z2.natAbs : Nat) : Int) := by
      unfold Small at s2 ⊢
      have := Nat.div_le_self z2.natAbs (Nat.gcd z1.natAbs z2.natAbs)
      simp only [Int.natAbs_natCast]; omega
    have GC := mkHid (fun w h1 h2 => r_gcd (.agg #[.bool (decide (z1 < 0)), .slice A n c]) (.agg #[.bool (decide (z2 < 0)), .slice B m d]) z1 z2 w h1 h2 s1 s2)
    have OV : Hid (∀ (v vg : Value) (z : Int) (g : Nat) w, Num w v z → Num w vg (g : Int) → Small z → Small (g : Int) → 0 < g → Calls Try.prog 60 #[v, vg] w fun e w' => (∃ v3 v4, e = .returned (.tuple #[v3, v4]) ∧ Num w' v3 ((z.natAbs / g : Nat) : Int) ∧ ∃ k : Nat, Num w' v4 (k : Int)) ∧ Below w.heap.size w w') := by
      intro v vg z g w h1 h2 hs1 hs2 hg
      refine (r_over v vg z g w h1 h2 hs1 hs2 (by omega)).mono ?_
      rintro e w' ⟨⟨v3, v4, rfl, h3, h4⟩, hb⟩
      rw [Int.natAbs_natCast] at h3 h4
      exact ⟨⟨v3, v4, rfl, by rw [Int.natCast_ediv]; exact h3, z.natAbs % g, by rw [Int.natCast_emod]; exact h4⟩, hb⟩
    rw [em]
    have es : sgnI (!(negB z1 == negB z2)) ((z1.natAbs / Nat.gcd z1.natAbs z2.natAbs : Nat) : Int) = sg (decide (z1 < 0) != decide (z2 < 0)) ((z1.natAbs / Nat.gcd z1.natAbs z2.natAbs : Nat) : Int) := rfl
    rw [es] at mr
    have hfin := told_parts mr.1 mr.2
    have hn := mr.1
    have hq := mr.2
    generalize Rat.divInt z1 z2 = r at *
    have HF : Hid ((fitB (sg (decide (z1 < 0) != decide (z2 < 0)) ((z1.natAbs / Nat.gcd z1.natAbs z2.natAbs : Nat) : Int)) = true ∧ fitB ((z2.natAbs / Nat.gcd z1.natAbs z2.natAbs : Nat) : Int) = true ∧ vp (told r) = tel (sg (decide (z1 < 0) != decide (z2 < 0)) ((z1.natAbs / Nat.gcd z1.natAbs z2.natAbs : Nat) : Int)) ∧ vq (told r) = tel ((z2.natAbs / Nat.gcd z1.natAbs z2.natAbs : Nat) : Int) ∧ (told r).isSome = true) ∨ ((fitB (sg (decide (z1 < 0) != decide (z2 < 0)) ((z1.natAbs / Nat.gcd z1.natAbs z2.natAbs : Nat) : Int)) = false ∨ fitB (sg (decide (z1 < 0) != decide (z2 < 0)) ((z1.natAbs / Nat.gcd z1.natAbs z2.natAbs : Nat) : Int)) = true ∧ fitB ((z2.natAbs / Nat.gcd z1.natAbs z2.natAbs : Nat) : Int) = false) ∧ vp (told r) = 0 ∧ vq (told r) = 0 ∧ (told r).isSome = false)) := by
      rcases hfin with ⟨f1, f2, e1, e2, e3⟩ | ⟨f1, e1⟩
      · left
        rw [e1, e2, e3]
        exact ⟨f1, f2, hn, hq, rfl⟩
      · right
        rw [e1]
        exact ⟨f1, rfl, rfl, rfl⟩
    clear hn hq hfin
    generalize vp (told r) = o1 at *
    generalize vq (told r) = o2 at *
    generalize (told r).isSome = o3 at *
    have sOV1 := mkHid (fun w vg h1 hg => OV.out (.agg #[.bool (decide (z1 < 0)), .slice A n c]) vg z1 (Nat.gcd z1.natAbs z2.natAbs) w h1 hg s1 hgs hgp)
    have sOV2 := mkHid (fun w vg h1 hg => OV.out (.agg #[.bool (decide (z2 < 0)), .slice B m d]) vg z2 (Nat.gcd z1.natAbs z2.natAbs) w h1 hg s2 hgs hgp)
    clear em mr eX eY es OV hgp
    generalize Nat.gcd z1.natAbs z2.natAbs = g at *
    generalize z1.natAbs / g = X at *
    generalize z2.natAbs / g = Y at *
    have IX := mkHid (fun v w h => r_int v (sg (decide (z1 < 0) != decide (z2 < 0)) (X : Int)) w h (by unfold Small sg at *; split <;> simpa using hXs))
    have IY := mkHid (fun v w h => r_int v (Y : Int) w h hYs)
    generalize decide (z1 < 0) = s at *
    generalize decide (z2 < 0) = t at *
    have H1 := mkHid h1
    have H2 := mkHid h2
    clear h1 h2 s1 s2 hgs hYs
    go_enter Try.func27, Try.ntmps27
    go_wp2_with fail
    have bx := bal (bal (Below.refl w.heap.size w) (.cells #[.bool s, .slice A n c] 25)) (.cells #[.bool t, .slice B m d] 25)
    have t2 : Two ((w.alloc (.cells #[.bool s, .slice A n c] 25)).alloc (.cells #[.bool t, .slice B m d] 25)) w.heap.size (.bool s) (.slice A n c) := by simp [Two, go_sem]
    have t3 : Two ((w.alloc (.cells #[.bool s, .slice A n c] 25)).alloc (.cells #[.bool t, .slice B m d] 25)) (w.heap.size + 1) (.bool t) (.slice B m d) := by simp [Two, go_sem]
    refine (GC.out _ (H1.out.later bx) (H2.out.later bx)).mono ?_; rintro e w1 ⟨⟨vg, rfl, hg⟩, hb1⟩
    obtain ⟨Ag, ng, cg, rfl⟩ := num_nat hg
    have bw := bal (Below.refl w1.heap.size w1) (.cells #[.bool false, .slice Ag ng cg] 25)
    have t2a := Two.later bw (Two.later hb1 t2)
    have t3a := Two.later bw (Two.later hb1 t3)
    have tga : Two (w1.alloc (.cells #[.bool false, .slice Ag ng cg] 25)) w1.heap.size (.bool false) (.slice Ag ng cg) := by simp [Two, go_sem]
    have hga := hg.later bw
    have B1 := bon (bon bx hb1) bw
    generalize hW1 : w1.alloc (.cells #[.bool false, .slice Ag ng cg] 25) = W1 at *
    generalize hG1 : w1.heap.size = G1 at *
    have x1 := t2a.1; have x2 := t2a.2.1; have x3 := t3a.1; have x4 := t3a.2.1; have x5 := tga.1; have x6 := tga.2.1
    clear t2 t3 hg bx bw GC hb1
    go_wp2_with fail
    refine (sOV1.out _ _ (H1.out.later B1) hga).mono ?_; rintro e w2 ⟨⟨v3, v4, rfl, hx, k4, hk4⟩, hb2⟩
    obtain ⟨A3, n3, c3, rfl⟩ := num_nat hx
    obtain ⟨A4, n4, c4, rfl⟩ := num_nat hk4
    have bw := bal (bal (Below.refl w2.heap.size w2) (.cells #[.bool false, .slice A3 n3 c3] 25)) (.cells #[.bool false, .slice A4 n4 c4] 25)
    have t2b := Two.later bw (Two.later hb2 t2a)
    have t3b := Two.later bw (Two.later hb2 t3a)
    have tgb := Two.later bw (Two.later hb2 tga)
    have t8b : Two ((w2.alloc (.cells #[.bool false, .slice A3 n3 c3] 25)).alloc (.cells #[.bool false, .slice A4 n4 c4] 25)) w2.heap.size (.bool false) (.slice A3 n3 c3) := by simp [Two, go_sem]
    have hgb := (hga.later hb2).later bw
    have hxb := hx.later bw
    have B2 := bon (bon B1 hb2) bw
    have lG2 : w.heap.size ≤ w2.heap.size := (bon B1 hb2).size
    clear x1 x2 x3 x4 x5 x6 t2a t3a tga hga hx hk4 bw hb2 B1 sOV1 hW1 hG1
    generalize hW2 : (w2.alloc (.cells #[.bool false, .slice A3 n3 c3] 25)).alloc (.cells #[.bool false, .slice A4 n4 c4] 25) = W2 at *
    generalize hG2 : w2.heap.size = G2 at *
    have x1 := t2b.1; have x2 := t2b.2.1; have x3 := t3b.1; have x4 := t3b.2.1; have x5 := tgb.1; have x6 := tgb.2.1
    go_wp2_with fail
    refine (sOV2.out _ _ (H2.out.later B2) hgb).mono ?_; rintro e w3 ⟨⟨v5, v6, rfl, hy, k6, hk6⟩, hb3⟩
    obtain ⟨A5, n5, c5, rfl⟩ := num_nat hy
    obtain ⟨A6, n6, c6, rfl⟩ := num_nat hk6
    have bw := bal (bal (Below.refl w3.heap.size w3) (.cells #[.bool false, .slice A5 n5 c5] 25)) (.cells #[.bool false, .slice A6 n6 c6] 25)
    have t2c := Two.later bw (Two.later hb3 t2b)
    have t3c := Two.later bw (Two.later hb3 t3b)
    have t8c := Two.later bw (Two.later hb3 t8b)
    have t10 : Two ((w3.alloc (.cells #[.bool false, .slice A5 n5 c5] 25)).alloc (.cells #[.bool false, .slice A6 n6 c6] 25)) w3.heap.size (.bool false) (.slice A5 n5 c5) := by simp [Two, go_sem]
    have hxc := (hxb.later hb3).later bw
    have hyc := hy.later bw
    have B3 := bon (bon B2 hb3) bw
    have l8 : G2 < w3.heap.size := World.block_lt_of_cell? w3 _ (Two.later hb3 t8b).1
    clear x1 x2 x3 x4 x5 x6 t2b t3b tgb t8b hgb hxb hy hk6 bw hb3 B2 sOV2 hW2
    generalize hW3 : (w3.alloc (.cells #[.bool false, .slice A5 n5 c5] 25)).alloc (.cells #[.bool false, .slice A6 n6 c6] 25) = W3 at *
    generalize hG3 : w3.heap.size = G3 at *
    have x1 := t2c.1; have x3 := t3c.1; have y0 := t8c.1; have y1 := t8c.2.1; have y2 := t8c.2.2.1; have y3 := t8c.2.2.2; have z0 := t10.1; have z1' := t10.2.1
    have n1 : ¬ G2 = G3 := by omega
    have n2 : ¬ G3 = G2 := by omega
    have CX := mkHid (cut_num (s := !(s == t)) (hxc.set1 y0 0 (.bool (!(s == t)))) hXs)
    rw [Int.natAbs_natCast] at CX
    have t10' := two_far t10 n2 0 (.bool (!(s == t)))
    have hy' := hyc.set1 y0 0 (.bool (!(s == t)))
    have B4 : Below w.heap.size w (W3.setCell ⟨G2, 0, none⟩ (.bool (!(s == t)))) := bset B3 (by simp; omega) _
    have IX' : Hid (∀ (v : Value) (w : World), Num w v (sg (!(s == t)) (X : Int)) → Calls Try.prog 55 #[v] w fun e w' => e = .returned (.tuple #[.int .i64 (tel (sg (s != t) (X : Int))), .bool (fitB (sg (s != t) (X : Int)))]) ∧ Below w.heap.size w w') := IX.out
    clear IX hxc hyc t2c t3c t8c t10 B3
    go_wp2_with fail
    ((with_reducible refine CX.out.mono ?_)); rintro e w4 ⟨⟨vc, rfl, hp⟩, hb4⟩
    go_wp2_with fail
    refine (IX'.out _ _ hp).mono ?_; rintro e w5 ⟨rfl, hb5⟩
    have hy5 := (hy'.later hb4).later hb5
    have t5 := Two.later hb5 (Two.later hb4 t10')
    have u0 := t5.1; have u1 := t5.2.1
    have B5 := bon (bon B4 hb4) hb5
    clear hy' t10' t5 CX IX' hb4 hb5 hp B4 y0 y1 y2 y3 z0 z1' x1 x3
    go_wp2_with fail
    refine (IY.out _ _ hy5).mono ?_; rintro e w6 ⟨rfl, hb6⟩
    clear IY hy5 u0 u1 hW3 hG3
    rcases HF.out with ⟨f1, f2, rfl, rfl, rfl⟩ | ⟨f1 | ⟨f1, f2⟩, rfl, rfl, rfl⟩
    · clear HF
      go_wp2
      go_ret3
      exact ⟨rfl, bon B5 hb6⟩
    · clear HF
      go_wp2
      go_ret3
      exact ⟨rfl, bon B5 hb6⟩
    · clear HF
      go_wp2
      go_ret3
      exact ⟨rfl, bon B5 hb6⟩
end Go.Proofs.Ytkgaoafcjhjefaa
