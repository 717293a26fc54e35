/-
  What NumWhole does: it returns true, whatever the two numbers are.
-/
import Derived.Test.YtkgaoafcjhjefaaRefL
namespace Go.Proofs.Ytkgaoafcjhjefaa
open Go.RowKit Go.Shelf

set_option maxHeartbeats 2000000 in
theorem f_fits (v : Value) (z : Int) (w : World) (h : Num w v z) (hz : Small z) :
    Calls Try.prog 21 #[v, .int .i64 (tel z), .bool (fitB z)] w fun e w' => e = .returned (.bool true) ∧ Below w.heap.size w w' := by
  obtain ⟨A, c, n, rfl⟩ := h.open_
  have I := mkHid (fun w h => r_int (.agg #[.bool (decide (z < 0)), .slice A n c]) z w h hz)
  have hn := h
  clear h hz
  generalize decide (z < 0) = s at *
  generalize tel z = tz at *
  cases hf : fitB z
  all_goals
    rw [hf] at I
    clear hf
    go_enter Try.func21, Try.ntmps21
    go_wp2_with fail
    refine (I.out _ (hn.later (bal (Below.refl _ _) _))).mono ?_; rintro e w1 ⟨rfl, hb1⟩
    go_wp2
    go_ret
    exact ⟨rfl, bon (bal (Below.refl _ _) _) hb1⟩

theorem small_of {z : Int} (h : z.natAbs ≤ 2 ^ 130) : Small z := by
  unfold Small
  have : (2 : Nat) ^ 130 < 10 ^ 60 := by decide
  omega
theorem small_add {a b : Int} (ha : fitB a = true) (hb : fitB b = true) : Small (a + b) ∧ Small (a + -b) ∧ Small (-a) ∧ Small (a * b) ∧ Small ((Nat.gcd a.natAbs b.natAbs : Nat) : Int) := by
  have h1 := (fitB_iff a).1 ha
  have h2 := (fitB_iff b).1 hb
  have e : (2 : Nat) ^ 130 = 1361129467683753853853498429727072845824 := by decide
  refine ⟨small_of (by omega), small_of (by omega), small_of (by omega), small_of ?_, small_of ?_⟩
  · rw [Int.natAbs_mul]
    have := Nat.mul_le_mul (show a.natAbs ≤ 2 ^ 64 by omega) (show b.natAbs ≤ 2 ^ 64 by omega)
    have e2 : (2 : Nat) ^ 64 * 2 ^ 64 ≤ 2 ^ 130 := by decide
    omega
  · simp only [Int.natAbs_natCast]
    rcases Nat.eq_zero_or_pos a.natAbs with h0 | h0
    · rw [h0, Nat.gcd_zero_left]; omega
    · have := Nat.gcd_le_left b.natAbs h0; omega

theorem whole_keep {w w' : World} {X Y : Nat} {s t : Bool} {A B : Option Addr} {n m c d : Nat} {a b : Int} (h : w.cell? ⟨X, 0, none⟩ = some (.bool s) ∧ w.cell? ⟨X, 1, none⟩ = some (.slice A n c) ∧ w.cell? ⟨Y, 0, none⟩ = some (.bool t) ∧ w.cell? ⟨Y, 1, none⟩ = some (.slice B m d) ∧ Num w (.agg #[.bool s, .slice A n c]) a ∧ Num w (.agg #[.bool t, .slice B m d]) b) (hb : Below w.heap.size w w') :
    w'.cell? ⟨X, 0, none⟩ = some (.bool s) ∧ w'.cell? ⟨X, 1, none⟩ = some (.slice A n c) ∧ w'.cell? ⟨Y, 0, none⟩ = some (.bool t) ∧ w'.cell? ⟨Y, 1, none⟩ = some (.slice B m d) ∧ Num w' (.agg #[.bool s, .slice A n c]) a ∧ Num w' (.agg #[.bool t, .slice B m d]) b :=
  ⟨cell_later hb h.1, cell_later hb h.2.1, cell_later hb h.2.2.1, cell_later hb h.2.2.2.1, h.2.2.2.2.1.later hb, h.2.2.2.2.2.later hb⟩

set_option maxHeartbeats 16000000 in
set_option maxRecDepth 100000 in
theorem whole_any (a b : Int) (w : World) (ha : fitB a = true) (hb : fitB b = true) :
    Calls Try.prog 3 #[.int .i64 a, .int .i64 b] w fun e w' => e = .returned (.bool true) ∧ Below w.heap.size w w' := by
  obtain ⟨m1, m2, m3, m4, m5⟩ := small_add ha hb
  have sa := small_fit ha
  have sb := small_fit hb
  have snb : Small (-b) := by unfold Small at sb ⊢; omega
  have O1 := mkHid (fun w => r_of a w ha)
  have O2 := mkHid (fun w => r_of b w hb)
  have A1 := mkHid (fun w => add_any a b w ha hb)
  have B1 := mkHid (fun w => sub_any a b w ha hb)
  have C1 := mkHid (fun w => mul_any a b w ha hb)
  have D1 := mkHid (fun w => neg_any a w ha)
  have E1 := mkHid (fun w => gcd_any a b w ha hb)
  have PL := mkHid (fun v1 v2 w h1 h2 => r_plus v1 v2 a b w h1 h2 sa sb)
  have PN := mkHid (fun v1 v2 w h1 h2 => r_plus v1 v2 a (-b) w h1 h2 sa snb)
  have TY := mkHid (fun v w h => r_turn v b w h sb)
  have TX := mkHid (fun v w h => r_turn v a w h sa)
  have TM := mkHid (fun v1 v2 w h1 h2 => r_times v1 v2 a b w h1 h2 sa sb)
  have GC := mkHid (fun v1 v2 w h1 h2 => r_gcd v1 v2 a b w h1 h2 sa sb)
  have F1 := mkHid (fun v w h => f_fits v (a + b) w h m1)
  have F2 := mkHid (fun v w (h : Num w v (a + -b)) => f_fits v (a + -b) w h m2)
  have F3 := mkHid (fun v w h => f_fits v (a * b) w h m4)
  have F4 := mkHid (fun v w h => f_fits v (-a) w h m3)
  have F5 := mkHid (fun v w (h : Num w v ((Nat.gcd a.natAbs b.natAbs : Nat) : Int)) => f_fits v ((Nat.gcd a.natAbs b.natAbs : Nat) : Int) w h m5)
  rw [show a + -b = a - b by omega] at F2 PN
  have eg : gcdI a b = ((Nat.gcd a.natAbs b.natAbs : Nat) : Int) := rfl
  rw [← eg] at F5 GC
  clear eg m1 m2 m3 m4 m5 sa sb snb ha hb
  generalize tel (a + b) = ta at *
  generalize fitB (a + b) = fa at *
  generalize tel (a - b) = ts at *
  generalize fitB (a - b) = fs at *
  generalize tel (a * b) = tm at *
  generalize fitB (a * b) = fm at *
  generalize tel (-a) = tn at *
  generalize fitB (-a) = fn at *
  generalize tel (gcdI a b) = tg at *
  generalize fitB (gcdI a b) = fg at *
  go_enter Try.func3, Try.ntmps3
  go_wp2_with fail
  refine (shown_any _).mono ?_; rintro e w1 ⟨rfl, hb1⟩
  go_wp2_with fail
  refine (O1.out _).mono ?_; rintro e w2 ⟨⟨vx, rfl, hX⟩, hb2⟩
  obtain ⟨A, c, n, rfl⟩ := hX.open_
  generalize decide (a < 0) = s at *
  go_wp2_with fail
  refine (O2.out _).mono ?_; rintro e w3 ⟨⟨vy, rfl, hY⟩, hb3⟩
  obtain ⟨B, d, m, rfl⟩ := hY.open_
  generalize decide (b < 0) = t at *
  have hS3 : (w3.alloc (.cells #[.bool t, .slice B m d] 25)).cell? ⟨w2.heap.size, 0, none⟩ = some (.bool s) ∧ (w3.alloc (.cells #[.bool t, .slice B m d] 25)).cell? ⟨w2.heap.size, 1, none⟩ = some (.slice A n c) ∧ (w3.alloc (.cells #[.bool t, .slice B m d] 25)).cell? ⟨w3.heap.size, 0, none⟩ = some (.bool t) ∧ (w3.alloc (.cells #[.bool t, .slice B m d] 25)).cell? ⟨w3.heap.size, 1, none⟩ = some (.slice B m d) ∧ Num (w3.alloc (.cells #[.bool t, .slice B m d] 25)) (.agg #[.bool s, .slice A n c]) a ∧ Num (w3.alloc (.cells #[.bool t, .slice B m d] 25)) (.agg #[.bool t, .slice B m d]) b := by
    have c0 : (w2.alloc (.cells #[.bool s, .slice A n c] 25)).cell? ⟨w2.heap.size, 0, none⟩ = some (.bool s) := by simp [go_sem]
    have c1 : (w2.alloc (.cells #[.bool s, .slice A n c] 25)).cell? ⟨w2.heap.size, 1, none⟩ = some (.slice A n c) := by simp [go_sem]
    have ba := bal (Below.refl w3.heap.size w3) (.cells #[.bool t, .slice B m d] 25)
    exact ⟨cell_later ba (cell_later hb3 c0), cell_later ba (cell_later hb3 c1), by simp [go_sem], by simp [go_sem], (hX.later (bon (bal (Below.refl _ _) _) hb3)).later ba, hY.later ba⟩
  have hB3 : Below w.heap.size w (w3.alloc (.cells #[.bool t, .slice B m d] 25)) := bal (bon (bal (bon hb1 hb2) _) hb3) _
  clear hX hY hb1 hb2 hb3
  generalize hW : w3.alloc (.cells #[.bool t, .slice B m d] 25) = W at *
  generalize hX : w2.heap.size = X at *
  generalize hY : w3.heap.size = Y at *
  go_wp2_with fail
  refine (A1.out _).mono ?_; rintro e w4 ⟨rfl, hb4⟩
  go_wp2_with fail
  refine (B1.out _).mono ?_; rintro e w5 ⟨rfl, hb5⟩
  go_wp2_with fail
  refine (C1.out _).mono ?_; rintro e w6 ⟨rfl, hb6⟩
  go_wp2_with fail
  refine (D1.out _).mono ?_; rintro e w7 ⟨rfl, hb7⟩
  go_wp2_with fail
  refine (E1.out _).mono ?_; rintro e w8 ⟨rfl, hb8⟩
  have hB8 := bon (bon (bon (bon (bon hB3 hb4) hb5) hb6) hb7) hb8
  have hS8 := whole_keep (whole_keep (whole_keep (whole_keep (whole_keep hS3 hb4) hb5) hb6) hb7) hb8
  clear hW hX hY hS3 hB3 hb4 hb5 hb6 hb7 hb8 A1 B1 C1 D1 E1 O1 O2
  go_wp2_with fail
  go_region_held2 (fun w' => w'.cell? ⟨X, 0, none⟩ = some (.bool s) ∧ w'.cell? ⟨X, 1, none⟩ = some (.slice A n c) ∧ w'.cell? ⟨Y, 0, none⟩ = some (.bool t) ∧ w'.cell? ⟨Y, 1, none⟩ = some (.slice B m d) ∧ Num w' (.agg #[.bool s, .slice A n c]) a ∧ Num w' (.agg #[.bool t, .slice B m d]) b)
    (first | exact hS8 | assumption | exact whole_keep (by assumption) (by assumption))
    ((first
      | (go_at_call 21; ((with_reducible refine (F5.out _ _ hN90).mono ?_)); rintro e w91 ⟨rfl, hb91⟩)
      | (go_at_call 21; ((with_reducible refine (F4.out _ _ hN80).mono ?_)); rintro e w81 ⟨rfl, hb81⟩)
      | (go_at_call 21; ((with_reducible refine (F3.out _ _ hN70).mono ?_)); rintro e w71 ⟨rfl, hb71⟩)
      | (go_at_call 21; ((with_reducible refine (F2.out _ _ hN61).mono ?_)); rintro e w62 ⟨rfl, hb62⟩)
      | (go_at_call 21; ((with_reducible refine (F1.out _ _ hN50).mono ?_)); rintro e w51 ⟨rfl, hb51⟩)
      | (go_at_call 22; ((with_reducible refine (PN.out _ _ _ ?_ hN60).mono ?_)); exact And.left (And.right (And.right (And.right (And.right (by assumption))))); rintro e w61 ⟨⟨v61, rfl, hN61⟩, hb61⟩)
      | (go_at_call 22; ((with_reducible refine (PL.out _ _ _ ?_ ?_).mono ?_)); exact And.left (And.right (And.right (And.right (And.right (by assumption))))); exact And.right (And.right (And.right (And.right (And.right (by assumption))))); rintro e w50 ⟨⟨v50, rfl, hN50⟩, hb50⟩)
      | (go_at_call 23; revert hN70; intro hN70; ((with_reducible refine (TX.out _ _ ?_).mono ?_)); exact And.left (And.right (And.right (And.right (And.right (by assumption))))); rintro e w80 ⟨⟨v80, rfl, hN80⟩, hb80⟩)
      | (go_at_call 23; ((with_reducible refine (TY.out _ _ ?_).mono ?_)); exact And.right (And.right (And.right (And.right (And.right (by assumption))))); rintro e w60 ⟨⟨v60, rfl, hN60⟩, hb60⟩)
      | (go_at_call 24; ((with_reducible refine (TM.out _ _ _ ?_ ?_).mono ?_)); exact And.left (And.right (And.right (And.right (And.right (by assumption))))); exact And.right (And.right (And.right (And.right (And.right (by assumption))))); rintro e w70 ⟨⟨v70, rfl, hN70⟩, hb70⟩)
      | (go_at_call 25; ((with_reducible refine (GC.out _ _ _ ?_ ?_).mono ?_)); exact And.left (And.right (And.right (And.right (And.right (by assumption))))); exact And.right (And.right (And.right (And.right (And.right (by assumption))))); rintro e w90 ⟨⟨v90, rfl, hN90⟩, hb90⟩)))
  go_wp2
  go_ret
  exact ⟨rfl, (by repeat (first | exact hB8 | (refine bon ?_ (by assumption)) | refine bdrewN ?_ _ | refine bdrew ?_))⟩
end Go.Proofs.Ytkgaoafcjhjefaa
