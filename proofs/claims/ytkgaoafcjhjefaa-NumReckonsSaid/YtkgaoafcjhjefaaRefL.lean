/-
  What 'Gcd' does.
-/
import Derived.Test.YtkgaoafcjhjefaaRefK
namespace Go.Proofs.Ytkgaoafcjhjefaa
open Go.RowKit Go.Shelf

theorem r_over (v1 v2 : Value) (z1 z2 : Int) (w : World) (h1 : Num w v1 z1) (h2 : Num w v2 z2) (s1 : Small z1) (s2 : Small z2) (h0 : z2 ≠ 0) :
    Calls Try.prog 60 #[v1, v2] w fun e w' => (∃ v3 v4, e = .returned (.tuple #[v3, v4]) ∧ Num w' v3 ((z1.natAbs : Int) / (z2.natAbs : Int)) ∧ Num w' v4 ((z1.natAbs : Int) % (z2.natAbs : Int))) ∧ Below w.heap.size w w' := by
  obtain ⟨A, c, xs, rfl, hl1, hL1, hd1, ht1, hv1⟩ := h1
  obtain ⟨B, d, ys, rfl, hl2, hL2, hd2, ht2, hv2⟩ := h2
  have n1 := len_small hd1 ht1 hv1 s1
  have n2 := len_small hd2 ht2 hv2 s2
  have h := over_core (decide (z1 < 0)) (decide (z2 < 0)) A B c d xs ys w hL1 hL2 hd1 hd2 ht2 (by omega) (by omega) (by rw [hv2]; omega)
  rw [hv1, hv2] at h
  exact h
/-- the size of the number whose box is b -/
def readY (w : World) (b : Nat) : Nat := match w.cell? ⟨b, 1, none⟩ with
  | some (.slice (some p) n _) => (valD ((List.range n).map fun j => cellInt (w.cell? ⟨p.block, j, none⟩))).natAbs
  | _ => 0
theorem readY_num {w : World} {b n c : Nat} {s t : Bool} {A : Option Addr} {z : Int} (h : Two w b (.bool s) (.slice A n c)) (hn : Num w (.agg #[.bool t, .slice A n c]) z) : readY w b = z.natAbs := by
  obtain ⟨-, -, ds, hl, hL, hd, ht, hv⟩ := num_parts hn
  unfold readY
  rw [h.2.1]
  rcases A with _ | p
  · rcases hL with rfl | ⟨g, hg, _⟩
    · simp [valD] at hv; simp; omega
    · cases hg
  · simp only
    have e : (List.range n).map (fun j => cellInt (w.cell? ⟨p.block, j, none⟩)) = ds := by
      rcases hL with rfl | ⟨g, hg, _, hc⟩
      · subst hl; rfl
      · cases hg
        apply List.ext_getElem?
        intro j
        by_cases hj : j < n
        · have := hc j (by omega)
          simp [hj, this, cellInt, List.getD, List.getElem?_eq_getElem (show j < ds.length by omega)]
        · simp [hj, List.getElem?_eq_none (show ds.length ≤ j by omega)]
    rw [e, hv]; omega
theorem num_zero {w : World} {t : Bool} {A : Option Addr} {n c : Nat} {z : Int} (h : Num w (.agg #[.bool t, .slice A n c]) z) : (n = 0 ∧ z = 0) ∨ (0 < n ∧ z ≠ 0) := by
  obtain ⟨-, -, ds, hl, hL, hd, ht, hv⟩ := num_parts h
  by_cases h0 : ds = []
  · subst h0; simp [valD] at hv hl; exact .inl ⟨hl.symm, by omega⟩
  · have := valD_pos ds hd ht h0
    have : 0 < ds.length := List.length_pos_iff.2 h0
    exact .inr ⟨by omega, by omega⟩
theorem num_abs {w : World} {v : Value} {z : Int} (h : Num w v z) : ∃ A n c, v = .agg #[.bool (decide (z < 0)), .slice A n c] ∧ Num w (.agg #[.bool false, .slice A n c]) (z.natAbs : Int) := by
  obtain ⟨A, c, ds, rfl, hl, hL, hd, ht, hv⟩ := h
  refine ⟨A, ds.length, c, rfl, A, c, ds, ?_, hl, hL, hd, ht, by rw [hv]; omega⟩
  rw [decide_eq_false (by omega)]

structure GS (w0 : World) (A5 : Option Addr) (n5 c5 x : Nat) (A6 : Option Addr) (n6 c6 y : Nat) (w : World) : Prop where
  r4 : Two w (w0.heap.size + 1 + 1) (.bool false) (.slice none 0 0)
  r5 : Two w (w0.heap.size + 1 + 1 + 1) (.bool false) (.slice A5 n5 c5)
  r6 : Two w (w0.heap.size + 1 + 1 + 1 + 1) (.bool false) (.slice A6 n6 c6)
  nx : Num w (.agg #[.bool false, .slice A5 n5 c5]) (x : Int)
  ny : Num w (.agg #[.bool false, .slice A6 n6 c6]) (y : Int)
  bel : Below w0.heap.size w0 w
theorem GS.later {w0 : World} {A5 : Option Addr} {n5 c5 x : Nat} {A6 : Option Addr} {n6 c6 y : Nat} {w w' : World} (h : GS w0 A5 n5 c5 x A6 n6 c6 y w) (hb : Below w.heap.size w w') : GS w0 A5 n5 c5 x A6 n6 c6 y w' :=
  ⟨Two.later hb h.r4, Two.later hb h.r5, Two.later hb h.r6, h.nx.later hb, h.ny.later hb, bon h.bel hb⟩
theorem GS.next {w0 : World} {A5 : Option Addr} {n5 c5 x : Nat} {A6 : Option Addr} {n6 c6 y : Nat} {w : World} (h : GS w0 A5 n5 c5 x A6 n6 c6 y w) {A8 : Option Addr} {n8 c8 z : Nat} (hz : Num w (.agg #[.bool false, .slice A8 n8 c8]) (z : Int)) :
    GS w0 A6 n6 c6 y A8 n8 c8 z ((((w.setCell ⟨w0.heap.size + 1 + 1 + 1, 0, none⟩ (.bool false)).setCell ⟨w0.heap.size + 1 + 1 + 1, 1, none⟩ (.slice A6 n6 c6)).setCell ⟨w0.heap.size + 1 + 1 + 1 + 1, 0, none⟩ (.bool false)).setCell ⟨w0.heap.size + 1 + 1 + 1 + 1, 1, none⟩ (.slice A8 n8 c8)) := by
  have a5 := Two.set_same h.r5 (.bool false) (.slice A6 n6 c6)
  have a6 := Two.set_other h.r6 (show w0.heap.size + 1 + 1 + 1 ≠ w0.heap.size + 1 + 1 + 1 + 1 by omega) (.bool false) (.slice A6 n6 c6)
  have a4 := Two.set_other h.r4 (show w0.heap.size + 1 + 1 + 1 ≠ w0.heap.size + 1 + 1 by omega) (.bool false) (.slice A6 n6 c6)
  exact ⟨Two.set_other a4 (by omega) _ _, Two.set_other a5 (by omega) _ _, Two.set_same a6 _ _, (h.ny.set h.r5.1 _ _).set a6.1 _ _, (hz.set h.r5.1 _ _).set a6.1 _ _, bset (bset (bset (bset h.bel (by simp; omega) _) (by simp; omega) _) (by simp; omega) _) (by simp; omega) _⟩

set_option maxHeartbeats 8000000 in
set_option maxRecDepth 100000 in
theorem r_gcd (v1 v2 : Value) (z1 z2 : Int) (w : World) (h1 : Num w v1 z1) (h2 : Num w v2 z2) (s1 : Small z1) (s2 : Small z2) :
    Calls Try.prog 25 #[v1, v2] w fun e w' => (∃ v, e = .returned v ∧ Num w' v ((Nat.gcd z1.natAbs z2.natAbs : Nat) : Int)) ∧ Below w.heap.size w w' := by
  obtain ⟨A, n, c, rfl, hN1⟩ := num_abs h1
  obtain ⟨B, m, d, rfl, hN2⟩ := num_abs h2
  clear h1 h2
  have sm : Hid (∀ w v1 v2 (x y : Nat), Num w v1 (x : Int) → Num w v2 (y : Int) → x < 10 ^ 60 → y < 10 ^ 60 → y ≠ 0 → Calls Try.prog 60 #[v1, v2] w fun e w' => (∃ v3 v4, e = .returned (.tuple #[v3, v4]) ∧ Num w' v3 ((x / y : Nat) : Int) ∧ Num w' v4 ((x % y : Nat) : Int)) ∧ Below w.heap.size w w') := by
    intro w v1 v2 x y h1 h2 hx hy h0
    have := r_over v1 v2 x y w h1 h2 (by unfold Small; simpa using hx) (by unfold Small; simpa using hy) (by omega)
    simpa using this
  obtain ⟨a, ha⟩ : ∃ a, z1.natAbs = a := ⟨_, rfl⟩
  obtain ⟨b, hb⟩ : ∃ b, z2.natAbs = b := ⟨_, rfl⟩
  unfold Small at s1 s2
  rw [ha] at hN1 s1 ⊢
  rw [hb] at hN2 s2 ⊢
  clear ha hb
  generalize decide (z1 < 0) = s at *
  generalize decide (z2 < 0) = t at *
  go_enter Try.func25, Try.ntmps25
  go_wp2_with fail
  have hG0 : GS w A n c a B m d b (((((w.alloc (.cells #[.bool s, .slice A n c] 25)).alloc (.cells #[.bool t, .slice B m d] 25)).alloc (.cells #[.bool false, .slice none 0 0] 25)).alloc (.cells #[.bool false, .slice A n c] 25)).alloc (.cells #[.bool false, .slice B m d] 25)) :=
    ⟨by simp [Two, go_sem], by simp [Two, go_sem], by simp [Two, go_sem], hN1.later (bal (bal (bal (bal (bal (Below.refl _ _) _) _) _) _) _), hN2.later (bal (bal (bal (bal (bal (Below.refl _ _) _) _) _) _) _), bal (bal (bal (bal (bal (Below.refl _ _) _) _) _) _) _⟩
  clear hN1 hN2
  go_loopw [18] (fun _ w' => ∃ (A5 : Option Addr) (n5 c5 x : Nat) (A6 : Option Addr) (n6 c6 y : Nat), Hid (Nat.gcd x y = Nat.gcd a b) ∧ x < 10 ^ 60 ∧ y < 10 ^ 60 ∧ GS w A5 n5 c5 x A6 n6 c6 y w') (fun _ w' => readY w' (w.heap.size + 1 + 1 + 1 + 1))
  case atStart => exact ⟨A, n, c, a, B, m, d, b, mkHid rfl, s1, s2, hG0⟩
  case round =>
    obtain ⟨A5, n5, c5, x, A6, n6, c6, y, hg, hx, hy, hG⟩ := hrel
    clear hG0 s1 s2
    have x50 := hG.r5.1; have x51 := hG.r5.2.1; have x60 := hG.r6.1; have x61 := hG.r6.2.1
    rcases num_zero hG.ny with ⟨h0, h1⟩ | ⟨h0, h1⟩
    · subst h0
      obtain rfl : y = 0 := by omega
      have x4 := hG.r4
      have y40 := x4.1; have y41 := x4.2.1; have y42 := x4.2.2.1; have y43 := x4.2.2.2
      have hn := hG.nx
      rw [show x = Nat.gcd a b by rw [← hg.out]; simp] at hn
      have bel := hG.bel
      clear hG x4 hg sm
      go_wp2
      refine bodyPost_ret (v := .agg #[.bool false, .slice A5 n5 c5]) (by simp [results, Try.results25, go_sem, y40, y41]) rfl ⟨⟨_, rfl, hn.set y40 _ _⟩, ?_⟩
      exact bset (bset bel (by simp; omega) _) (by simp; omega) _
    · have O := mkHid (sm.out wr _ _ x y hG.nx hG.ny hx hy (by omega))
      have my := readY_num hG.r6 hG.ny
      have MY := mkHid my
      clear my
      go_wp2_with fail
      refine O.out.mono ?_; rintro e w1 ⟨⟨v3, v4, rfl, hN3, hN4⟩, hb1⟩
      obtain ⟨A3, n3, c3, rfl, -⟩ := num_abs hN3
      obtain ⟨A4, n4, c4, rfl, hN4'⟩ := num_abs hN4
      have d3 : decide (((x / y : Nat) : Int) < 0) = false := decide_eq_false (Int.not_lt.2 (Int.natCast_nonneg _))
      have d4 : decide (((x % y : Nat) : Int) < 0) = false := decide_eq_false (Int.not_lt.2 (Int.natCast_nonneg _))
      rw [d3, d4]
      have hG1 := hG.later (bon hb1 (bal (bal (Below.refl _ _) (.cells #[.bool false, .slice A3 n3 c3] 25)) (.cells #[.bool false, .slice A4 n4 c4] 25)))
      have p50 := hG1.r5.1; have p51 := hG1.r5.2.1; have p52 := hG1.r5.2.2.1; have p53 := hG1.r5.2.2.2
      have p60 := hG1.r6.1; have p61 := hG1.r6.2.1; have p62 := hG1.r6.2.2.1; have p63 := hG1.r6.2.2.2
      have hz : Num ((w1.alloc (.cells #[.bool false, .slice A3 n3 c3] 25)).alloc (.cells #[.bool false, .slice A4 n4 c4] 25)) (.agg #[.bool false, .slice A4 n4 c4]) ((x % y : Nat) : Int) := by
        have := hN4'.later (bal (bal (Below.refl _ _) (.cells #[.bool false, .slice A3 n3 c3] 25)) (.cells #[.bool false, .slice A4 n4 c4] 25))
        rw [Int.natAbs_natCast] at this
        exact this
      have hG2 := mkHid (hG1.next hz)
      have p80 : ((w1.alloc (.cells #[.bool false, .slice A3 n3 c3] 25)).alloc (.cells #[.bool false, .slice A4 n4 c4] 25)).cell? ⟨w1.heap.size + 1, 0, none⟩ = some (.bool false) := by simp [go_sem]
      have p81 : ((w1.alloc (.cells #[.bool false, .slice A3 n3 c3] 25)).alloc (.cells #[.bool false, .slice A4 n4 c4] 25)).cell? ⟨w1.heap.size + 1, 1, none⟩ = some (.slice A4 n4 c4) := by simp [go_sem]
      have l5 : w.heap.size + 1 + 1 + 1 < w1.heap.size := World.block_lt_of_cell? w1 _ (hG.later hb1).r5.1
      have l6 : w.heap.size + 1 + 1 + 1 + 1 < w1.heap.size := World.block_lt_of_cell? w1 _ (hG.later hb1).r6.1
      have n1 : ¬ w.heap.size + 1 + 1 + 1 = w1.heap.size + 1 := by omega
      have n2 : ¬ w1.heap.size + 1 = w.heap.size + 1 + 1 + 1 := by omega
      have n3' : ¬ w.heap.size + 1 + 1 + 1 + 1 = w1.heap.size + 1 := by omega
      have n4' : ¬ w1.heap.size + 1 = w.heap.size + 1 + 1 + 1 + 1 := by omega
      have n5' : ¬ w.heap.size + 1 + 1 + 1 = w1.heap.size := by omega
      have n6' : ¬ w.heap.size + 1 + 1 + 1 + 1 = w1.heap.size := by omega
      have hgn : Hid (Nat.gcd y (x % y) = Nat.gcd a b) := by
        show _ = _
        rw [← hg.out, Nat.gcd_comm x y, Nat.gcd_rec y x, Nat.gcd_comm]
      have hyn : x % y < 10 ^ 60 := Nat.lt_trans (Nat.mod_lt _ (by omega)) hy
      have hlt := Nat.mod_lt x (show 0 < y by omega)
      clear d3 d4 hN3 hN4 hG O sm hg hG1 hz hN4'
      generalize hW : (w1.alloc (.cells #[.bool false, .slice A3 n3 c3] 25)).alloc (.cells #[.bool false, .slice A4 n4 c4] 25) = W2 at *
      have M2 := mkHid (readY_num hG2.out.r6 hG2.out.ny)
      go_wp2_with fail
      go_roundw
      case rel => exact ⟨A6, n6, c6, y, A4, n4, c4, x % y, hgn, hy, hyn, hG2.out⟩
      case measure =>
        rw [M2.out, MY.out, Int.natAbs_natCast, Int.natAbs_natCast]; exact hlt
end Go.Proofs.Ytkgaoafcjhjefaa
