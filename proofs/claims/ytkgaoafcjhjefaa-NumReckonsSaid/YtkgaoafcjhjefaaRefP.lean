/-
  What the document's Sum, Product, Quotient and Cmp do.
-/
import Derived.Test.YtkgaoafcjhjefaaRefO
namespace Go.Proofs.Ytkgaoafcjhjefaa
open Go.RowKit Go.Shelf

set_option maxHeartbeats 8000000 in
set_option maxRecDepth 100000 in
theorem r_product (p q r s : Int) (w : World) (hp : fitB p = true) (hq : fitB q = true) (hr : fitB r = true) (hs : fitB s = true) :
    Calls Try.prog 36 #[.int .i64 p, .int .i64 q, .int .i64 r, .int .i64 s] w fun e w' => e = .returned (.tuple #[.int .i64 (vp (makeO (p * r) (q * s))), .int .i64 (vq (makeO (p * r) (q * s))), .bool (makeO (p * r) (q * s)).isSome]) ∧ Below w.heap.size w w' := by
  have Op := mkHid (fun w => r_of p w hp)
  have Oq := mkHid (fun w => r_of q w hq)
  have Or := mkHid (fun w => r_of r w hr)
  have Os := mkHid (fun w => r_of s w hs)
  have s1 := small_mm hp hr
  have s2 := small_mm hq hs
  have T1 := mkHid (fun v1 v2 w h1 h2 => r_times v1 v2 p r w h1 h2 (small_fit hp) (small_fit hr))
  have T2 := mkHid (fun v1 v2 w h1 h2 => r_times v1 v2 q s w h1 h2 (small_fit hq) (small_fit hs))
  have MK := mkHid (fun v1 v2 w h1 h2 => r_make v1 v2 (p * r) (q * s) w h1 h2 s1 s2)
  generalize vp (makeO (p * r) (q * s)) = o1 at *
  generalize vq (makeO (p * r) (q * s)) = o2 at *
  generalize (makeO (p * r) (q * s)).isSome = o3 at *
  clear s1 s2 hp hq hr hs
  go_enter Try.func36, Try.ntmps36
  go_wp2_with fail
  refine (Op.out _).mono ?_; rintro e w1 ⟨⟨v_a, rfl, n_a⟩, hb1⟩
  go_wp2_with fail
  refine (Or.out _).mono ?_; rintro e w2 ⟨⟨v_b, rfl, n_b⟩, hb2⟩
  go_wp2_with fail
  refine (T1.out _ _ _ (n_a.later hb2) n_b).mono ?_; rintro e w3 ⟨⟨v_x, rfl, n_x⟩, hb3⟩
  go_wp2_with fail
  refine (Oq.out _).mono ?_; rintro e w4 ⟨⟨v_c, rfl, n_c⟩, hb4⟩
  go_wp2_with fail
  refine (Os.out _).mono ?_; rintro e w5 ⟨⟨v_d, rfl, n_d⟩, hb5⟩
  go_wp2_with fail
  refine (T2.out _ _ _ (n_c.later hb5) n_d).mono ?_; rintro e w6 ⟨⟨v_y, rfl, n_y⟩, hb6⟩
  go_wp2_with fail
  refine (MK.out _ _ _ (((n_x.later hb4).later hb5).later hb6) n_y).mono ?_; rintro e w7 ⟨rfl, hb7⟩
  go_wp2
  go_ret3
  exact ⟨rfl, bon (bon (bon (bon (bon (bon hb1 hb2) hb3) hb4) hb5) hb6) hb7⟩

set_option maxHeartbeats 8000000 in
set_option maxRecDepth 100000 in
theorem r_quotient (p q r s : Int) (w : World) (hp : fitB p = true) (hq : fitB q = true) (hr : fitB r = true) (hs : fitB s = true) :
    Calls Try.prog 37 #[.int .i64 p, .int .i64 q, .int .i64 r, .int .i64 s] w fun e w' => e = .returned (.tuple #[.int .i64 (vp (makeO (p * s) (q * r))), .int .i64 (vq (makeO (p * s) (q * r))), .bool (makeO (p * s) (q * r)).isSome]) ∧ Below w.heap.size w w' := by
  have Op := mkHid (fun w => r_of p w hp)
  have Oq := mkHid (fun w => r_of q w hq)
  have Or := mkHid (fun w => r_of r w hr)
  have Os := mkHid (fun w => r_of s w hs)
  have s1 := small_mm hp hs
  have s2 := small_mm hq hr
  have T1 := mkHid (fun v1 v2 w h1 h2 => r_times v1 v2 p s w h1 h2 (small_fit hp) (small_fit hs))
  have T2 := mkHid (fun v1 v2 w h1 h2 => r_times v1 v2 q r w h1 h2 (small_fit hq) (small_fit hr))
  have MK := mkHid (fun v1 v2 w h1 h2 => r_make v1 v2 (p * s) (q * r) w h1 h2 s1 s2)
  generalize vp (makeO (p * s) (q * r)) = o1 at *
  generalize vq (makeO (p * s) (q * r)) = o2 at *
  generalize (makeO (p * s) (q * r)).isSome = o3 at *
  clear s1 s2 hp hq hr hs
  go_enter Try.func37, Try.ntmps37
  go_wp2_with fail
  refine (Op.out _).mono ?_; rintro e w1 ⟨⟨v_a, rfl, n_a⟩, hb1⟩
  go_wp2_with fail
  refine (Os.out _).mono ?_; rintro e w2 ⟨⟨v_b, rfl, n_b⟩, hb2⟩
  go_wp2_with fail
  refine (T1.out _ _ _ (n_a.later hb2) n_b).mono ?_; rintro e w3 ⟨⟨v_x, rfl, n_x⟩, hb3⟩
  go_wp2_with fail
  refine (Oq.out _).mono ?_; rintro e w4 ⟨⟨v_c, rfl, n_c⟩, hb4⟩
  go_wp2_with fail
  refine (Or.out _).mono ?_; rintro e w5 ⟨⟨v_d, rfl, n_d⟩, hb5⟩
  go_wp2_with fail
  refine (T2.out _ _ _ (n_c.later hb5) n_d).mono ?_; rintro e w6 ⟨⟨v_y, rfl, n_y⟩, hb6⟩
  go_wp2_with fail
  refine (MK.out _ _ _ (((n_x.later hb4).later hb5).later hb6) n_y).mono ?_; rintro e w7 ⟨rfl, hb7⟩
  go_wp2
  go_ret3
  exact ⟨rfl, bon (bon (bon (bon (bon (bon hb1 hb2) hb3) hb4) hb5) hb6) hb7⟩

set_option maxHeartbeats 8000000 in
set_option maxRecDepth 100000 in
theorem r_cmp (p q r s : Int) (w : World) (hp : fitB p = true) (hq : fitB q = true) (hr : fitB r = true) (hs : fitB s = true) :
    Calls Try.prog 39 #[.int .i64 p, .int .i64 q, .int .i64 r, .int .i64 s] w fun e w' => e = .returned (.int .i64 (if p * s + -(r * q) < 0 then -1 else if p * s + -(r * q) = 0 then 0 else 1)) ∧ Below w.heap.size w w' := by
  have Op := mkHid (fun w => r_of p w hp)
  have Oq := mkHid (fun w => r_of q w hq)
  have Or := mkHid (fun w => r_of r w hr)
  have Os := mkHid (fun w => r_of s w hs)
  have s1 := small_mm hp hs
  have s2 := small_mm hr hq
  have s3 := small_neg s2
  have T1 := mkHid (fun v1 v2 w h1 h2 => r_times v1 v2 p s w h1 h2 (small_fit hp) (small_fit hs))
  have T2 := mkHid (fun v1 v2 w h1 h2 => r_times v1 v2 r q w h1 h2 (small_fit hr) (small_fit hq))
  have TU := mkHid (fun v w h => r_turn v (r * q) w h s2)
  have PL := mkHid (fun v1 v2 w h1 h2 => r_plus v1 v2 (p * s) (-(r * q)) w h1 h2 s1 s3)
  generalize p * s + -(r * q) = z at *
  generalize hR : (if z < 0 then (-1 : Int) else if z = 0 then 0 else 1) = R at *
  have HR := mkHid hR
  clear hR s1 s2 s3 hp hq hr hs
  go_enter Try.func39, Try.ntmps39
  go_wp2_with fail
  refine (Op.out _).mono ?_; rintro e w1 ⟨⟨v_a, rfl, n_a⟩, hb1⟩
  go_wp2_with fail
  refine (Os.out _).mono ?_; rintro e w2 ⟨⟨v_b, rfl, n_b⟩, hb2⟩
  go_wp2_with fail
  refine (T1.out _ _ _ (n_a.later hb2) n_b).mono ?_; rintro e w3 ⟨⟨v_x, rfl, n_x⟩, hb3⟩
  go_wp2_with fail
  refine (Or.out _).mono ?_; rintro e w4 ⟨⟨v_c, rfl, n_c⟩, hb4⟩
  go_wp2_with fail
  refine (Oq.out _).mono ?_; rintro e w5 ⟨⟨v_d, rfl, n_d⟩, hb5⟩
  go_wp2_with fail
  refine (T2.out _ _ _ (n_c.later hb5) n_d).mono ?_; rintro e w6 ⟨⟨v_y, rfl, n_y⟩, hb6⟩
  go_wp2_with fail
  refine (TU.out _ _ n_y).mono ?_; rintro e w7 ⟨⟨v_u, rfl, n_u⟩, hb7⟩
  go_wp2_with fail
  refine (PL.out _ _ _ ((((n_x.later hb4).later hb5).later hb6).later hb7) n_u).mono ?_; rintro e w8 ⟨⟨v_z, rfl, n_z⟩, hb8⟩
  obtain ⟨A, c, n, rfl⟩ := n_z.open_
  have nz := num_zero n_z
  have B8 := (bon (bon (bon (bon (bon (bon (bon hb1 hb2) hb3) hb4) hb5) hb6) hb7) hb8)
  clear n_a n_b n_c n_d n_x n_y n_u n_z
  by_cases h1 : z < 0
  · have e1 : decide (z < 0) = true := by simp [h1]
    have h0 : 0 < n := by omega
    have hn : ((n : Int) == 0) = false := by simp; omega
    obtain rfl : R = -1 := by rw [← HR.out, if_pos h1]
    rw [e1]
    clear nz e1 HR
    go_wp2
    go_ret
    exact ⟨rfl, bal B8 _⟩
  · have e1 : decide (z < 0) = false := by simp [h1]
    rw [e1]
    clear e1
    rcases nz with ⟨rfl, h2⟩ | ⟨h0, h2⟩
    · obtain rfl : R = 0 := by rw [← HR.out, if_neg h1, if_pos h2]
      clear HR h2
      go_wp2
      go_ret
      exact ⟨rfl, bal B8 _⟩
    · obtain rfl : R = 1 := by rw [← HR.out, if_neg h1, if_neg h2]
      clear HR
      have hn : ((n : Int) == 0) = false := by simp; omega
      go_wp2
      go_ret
      exact ⟨rfl, bal B8 _⟩

theorem box_keep {w w' : World} {X : Nat} {x y : Value} {z : Int} (h : w.cell? ⟨X, 0, none⟩ = some x ∧ w.cell? ⟨X, 1, none⟩ = some y ∧ Num w (.agg #[x, y]) z) (hb : Below w.heap.size w w') :
    w'.cell? ⟨X, 0, none⟩ = some x ∧ w'.cell? ⟨X, 1, none⟩ = some y ∧ Num w' (.agg #[x, y]) z :=
  ⟨cell_later hb h.1, cell_later hb h.2.1, h.2.2.later hb⟩
set_option maxHeartbeats 8000000 in
set_option maxRecDepth 100000 in
theorem r_sum (p q r s : Int) (w : World) (hp : fitB p = true) (hq : fitB q = true) (hr : fitB r = true) (hs : fitB s = true) :
    Calls Try.prog 34 #[.int .i64 p, .int .i64 q, .int .i64 r, .int .i64 s, .bool false] w fun e w' => e = .returned (.tuple #[.int .i64 (vp (makeO (p * s + r * q) (q * s))), .int .i64 (vq (makeO (p * s + r * q) (q * s))), .bool (makeO (p * s + r * q) (q * s)).isSome]) ∧ Below w.heap.size w w' := by
  have Op := mkHid (fun w => r_of p w hp)
  have Oq := mkHid (fun w => r_of q w hq)
  have Or := mkHid (fun w => r_of r w hr)
  have Os := mkHid (fun w => r_of s w hs)
  have s1 := small_mm hp hs
  have s2 := small_mm hr hq
  have s3 := small_neg s2
  have s4 := small_mm hq hs
  have s5 := small_sum hp hs hr hq
  have T1 := mkHid (fun v1 v2 w h1 h2 => r_times v1 v2 p s w h1 h2 (small_fit hp) (small_fit hs))
  have T2 := mkHid (fun v1 v2 w h1 h2 => r_times v1 v2 r q w h1 h2 (small_fit hr) (small_fit hq))
  have T3 := mkHid (fun v1 v2 w h1 h2 => r_times v1 v2 q s w h1 h2 (small_fit hq) (small_fit hs))
  have PL := mkHid (fun v1 v2 w h1 h2 => r_plus v1 v2 (p * s) (r * q) w h1 h2 s1 s2)
  have MK := mkHid (fun v1 v2 w h1 h2 => r_make v1 v2 (p * s + r * q) (q * s) w h1 h2 s5.1 s4)
  generalize vp (makeO (p * s + r * q) (q * s)) = o1 at *
  generalize vq (makeO (p * s + r * q) (q * s)) = o2 at *
  generalize (makeO (p * s + r * q) (q * s)).isSome = o3 at *
  generalize p * s + r * q = zN at *
  generalize q * s = zD at *
  generalize p * s = zPS at *
  generalize r * q = zB at *
  clear s1 s2 s3 s4 s5 hp hq hr hs
  go_enter Try.func34, Try.ntmps34
  go_wp2_with fail
  refine (Or.out _).mono ?_; rintro e w1 ⟨⟨v_c, rfl, n_c⟩, hb1⟩
  go_wp2_with fail
  refine (Oq.out _).mono ?_; rintro e w2 ⟨⟨v_d, rfl, n_d⟩, hb2⟩
  go_wp2_with fail
  refine (T2.out _ _ _ (n_c.later hb2) n_d).mono ?_; rintro e w3 ⟨⟨v_y, rfl, n_y⟩, hb3⟩
  obtain ⟨A, c, n, rfl⟩ := n_y.open_
  generalize decide (zB < 0) = sg0 at *
  have bx : Below w.heap.size w (w3.alloc (.cells #[.bool sg0, .slice A n c] 25)) := bal (bon (bon hb1 hb2) hb3) _
  have S0 : (w3.alloc (.cells #[.bool sg0, .slice A n c] 25)).cell? ⟨w3.heap.size, 0, none⟩ = some (.bool sg0) ∧ (w3.alloc (.cells #[.bool sg0, .slice A n c] 25)).cell? ⟨w3.heap.size, 1, none⟩ = some (.slice A n c) ∧ Num (w3.alloc (.cells #[.bool sg0, .slice A n c] 25)) (.agg #[.bool sg0, .slice A n c]) zB := ⟨by simp [go_sem], by simp [go_sem], n_y.later (bal (Below.refl _ _) _)⟩
  clear n_c n_d n_y hb1 hb2 hb3
  generalize hX : w3.heap.size = X at *
  generalize hW : w3.alloc (.cells #[.bool sg0, .slice A n c] 25) = W at *
  go_wp2_with fail
  clear hX hW
  go_region_held2 (fun w' => w'.cell? ⟨X, 0, none⟩ = some (.bool sg0) ∧ w'.cell? ⟨X, 1, none⟩ = some (.slice A n c) ∧ Num w' (.agg #[.bool sg0, .slice A n c]) zB)
    (first | exact S0 | assumption | exact box_keep (by assumption) (by assumption))
    ((first
      | (go_at_call 27; ((with_reducible refine (MK.out _ _ _ (((n_26.later hb_30).later hb_32).later hb_33) n_33).mono ?_)); rintro e w_34 ⟨rfl, hb_34⟩)
      | (go_at_call 24; ((with_reducible refine (T3.out _ _ _ (n_30.later hb_32) n_32).mono ?_)); rintro e w_33 ⟨⟨v_33, rfl, n_33⟩, hb_33⟩)
      | (go_at_call 15; revert n_30; intro n_30; ((with_reducible refine (Os.out _).mono ?_)); rintro e w_32 ⟨⟨v_32, rfl, n_32⟩, hb_32⟩)
      | (go_at_call 15; ((with_reducible refine (Oq.out _).mono ?_)); rintro e w_30 ⟨⟨v_30, rfl, n_30⟩, hb_30⟩)
      | (go_at_call 22; ((with_reducible refine (PL.out _ _ _ n_25 ?_).mono ?_)); exact And.right (And.right (by assumption)); rintro e w_26 ⟨⟨v_26, rfl, n_26⟩, hb_26⟩)
      | (go_at_call 24; ((with_reducible refine (T1.out _ _ _ (n_23.later hb_24) n_24).mono ?_)); rintro e w_25 ⟨⟨v_25, rfl, n_25⟩, hb_25⟩)
      | (go_at_call 15; ((with_reducible refine (Os.out _).mono ?_)); rintro e w_24 ⟨⟨v_24, rfl, n_24⟩, hb_24⟩)
      | (go_at_call 15; ((with_reducible refine (Op.out _).mono ?_)); rintro e w_23 ⟨⟨v_23, rfl, n_23⟩, hb_23⟩)))
  go_wp2
  go_ret3
  exact ⟨rfl, (by repeat (first | exact bx | (refine bon ?_ (by assumption)) | refine bdrewN ?_ _ | refine bdrew ?_))⟩

set_option maxHeartbeats 8000000 in
set_option maxRecDepth 100000 in
theorem r_less (p q r s : Int) (w : World) (hp : fitB p = true) (hq : fitB q = true) (hr : fitB r = true) (hs : fitB s = true) :
    Calls Try.prog 34 #[.int .i64 p, .int .i64 q, .int .i64 r, .int .i64 s, .bool true] w fun e w' => e = .returned (.tuple #[.int .i64 (vp (makeO (p * s + -(r * q)) (q * s))), .int .i64 (vq (makeO (p * s + -(r * q)) (q * s))), .bool (makeO (p * s + -(r * q)) (q * s)).isSome]) ∧ Below w.heap.size w w' := by
  have Op := mkHid (fun w => r_of p w hp)
  have Oq := mkHid (fun w => r_of q w hq)
  have Or := mkHid (fun w => r_of r w hr)
  have Os := mkHid (fun w => r_of s w hs)
  have s1 := small_mm hp hs
  have s2 := small_mm hr hq
  have s3 := small_neg s2
  have s4 := small_mm hq hs
  have s5 := small_sum hp hs hr hq
  have T1 := mkHid (fun v1 v2 w h1 h2 => r_times v1 v2 p s w h1 h2 (small_fit hp) (small_fit hs))
  have T2 := mkHid (fun v1 v2 w h1 h2 => r_times v1 v2 r q w h1 h2 (small_fit hr) (small_fit hq))
  have T3 := mkHid (fun v1 v2 w h1 h2 => r_times v1 v2 q s w h1 h2 (small_fit hq) (small_fit hs))
  have PL := mkHid (fun v1 v2 w h1 h2 => r_plus v1 v2 (p * s) (-(r * q)) w h1 h2 s1 s3)
  have MK := mkHid (fun v1 v2 w h1 h2 => r_make v1 v2 (p * s + -(r * q)) (q * s) w h1 h2 s5.2 s4)
  have TU := mkHid (fun v w h => r_turn v (r * q) w h s2)
  generalize vp (makeO (p * s + -(r * q)) (q * s)) = o1 at *
  generalize vq (makeO (p * s + -(r * q)) (q * s)) = o2 at *
  generalize (makeO (p * s + -(r * q)) (q * s)).isSome = o3 at *
  generalize p * s + -(r * q) = zN at *
  generalize q * s = zD at *
  generalize p * s = zPS at *
  generalize hB : r * q = zRQ at *
  clear hB
  clear s1 s2 s3 s4 s5 hp hq hr hs
  go_enter Try.func34, Try.ntmps34
  go_wp2_with fail
  refine (Or.out _).mono ?_; rintro e w1 ⟨⟨v_c, rfl, n_c⟩, hb1⟩
  go_wp2_with fail
  refine (Oq.out _).mono ?_; rintro e w2 ⟨⟨v_d, rfl, n_d⟩, hb2⟩
  go_wp2_with fail
  refine (T2.out _ _ _ (n_c.later hb2) n_d).mono ?_; rintro e w3 ⟨⟨v_y, rfl, n_y⟩, hb3⟩
  obtain ⟨A, c, n, rfl⟩ := n_y.open_
  generalize decide (zRQ < 0) = sg0 at *
  have bx : Below w.heap.size w (w3.alloc (.cells #[.bool sg0, .slice A n c] 25)) := bal (bon (bon hb1 hb2) hb3) _
  have S0 : (w3.alloc (.cells #[.bool sg0, .slice A n c] 25)).cell? ⟨w3.heap.size, 0, none⟩ = some (.bool sg0) ∧ (w3.alloc (.cells #[.bool sg0, .slice A n c] 25)).cell? ⟨w3.heap.size, 1, none⟩ = some (.slice A n c) ∧ Num (w3.alloc (.cells #[.bool sg0, .slice A n c] 25)) (.agg #[.bool sg0, .slice A n c]) zRQ := ⟨by simp [go_sem], by simp [go_sem], n_y.later (bal (Below.refl _ _) _)⟩
  have lw : w.heap.size ≤ w3.heap.size := (bon (bon hb1 hb2) hb3).size
  clear n_c n_d n_y T2
  have F0 : Two (w3.alloc (.cells #[.bool sg0, .slice A n c] 25)) w3.heap.size (.bool sg0) (.slice A n c) := by simp [Two, go_sem]
  generalize hX : w3.heap.size = X at *
  generalize hW : w3.alloc (.cells #[.bool sg0, .slice A n c] 25) = W at *
  have x0 := F0.1; have x1 := F0.2.1
  go_wp2_with fail
  refine (TU.out _ _ S0.2.2).mono ?_; rintro e w4 ⟨⟨v_u, rfl, n_u⟩, hb4⟩
  obtain ⟨A4, c4, n4, rfl⟩ := n_u.open_
  generalize decide (-zRQ < 0) = sg4 at *
  have F4 := Two.later hb4 F0
  have S4 : ((w4.setCell ⟨X, 0, none⟩ (.bool sg4)).setCell ⟨X, 1, none⟩ (.slice A4 n4 c4)).cell? ⟨X, 0, none⟩ = some (.bool sg4) ∧ ((w4.setCell ⟨X, 0, none⟩ (.bool sg4)).setCell ⟨X, 1, none⟩ (.slice A4 n4 c4)).cell? ⟨X, 1, none⟩ = some (.slice A4 n4 c4) ∧ Num ((w4.setCell ⟨X, 0, none⟩ (.bool sg4)).setCell ⟨X, 1, none⟩ (.slice A4 n4 c4)) (.agg #[.bool sg4, .slice A4 n4 c4]) (-zRQ) := by
    have F5 := Two.set_same F4 (.bool sg4) (.slice A4 n4 c4)
    have F6 : (w4.setCell ⟨X, 0, none⟩ (.bool sg4)).cell? ⟨X, 0, none⟩ = some (.bool sg4) := by simp [go_sem, F4.1]
    exact ⟨F5.1, F5.2.1, (n_u.set1 F4.1 0 _).set1 F6 1 _⟩
  have b4 : Below w.heap.size w ((w4.setCell ⟨X, 0, none⟩ (.bool sg4)).setCell ⟨X, 1, none⟩ (.slice A4 n4 c4)) := bset (bset (bon bx hb4) (by simp; omega) _) (by simp; omega) _
  have y0 := F4.1; have y1 := F4.2.1; have y2 := F4.2.2.1; have y3 := F4.2.2.2
  clear x0 x1 F0 F4 S0 bx hb1 hb2 hb3 hb4 n_u TU lw hX hW
  go_wp2_with fail
  clear y0 y1 y2 y3
  generalize (w4.setCell ⟨X, 0, none⟩ (.bool sg4)).setCell ⟨X, 1, none⟩ (.slice A4 n4 c4) = W5 at *
  go_region_held2 (fun w' => w'.cell? ⟨X, 0, none⟩ = some (.bool sg4) ∧ w'.cell? ⟨X, 1, none⟩ = some (.slice A4 n4 c4) ∧ Num w' (.agg #[.bool sg4, .slice A4 n4 c4]) (-zRQ))
    (first | exact S4 | assumption | exact box_keep (by assumption) (by assumption))
    ((first
      | (go_at_call 27; ((with_reducible refine (MK.out _ _ _ (((n_26.later hb_30).later hb_32).later hb_33) n_33).mono ?_)); rintro e w_34 ⟨rfl, hb_34⟩)
      | (go_at_call 24; ((with_reducible refine (T3.out _ _ _ (n_30.later hb_32) n_32).mono ?_)); rintro e w_33 ⟨⟨v_33, rfl, n_33⟩, hb_33⟩)
      | (go_at_call 15; revert n_30; intro n_30; ((with_reducible refine (Os.out _).mono ?_)); rintro e w_32 ⟨⟨v_32, rfl, n_32⟩, hb_32⟩)
      | (go_at_call 15; ((with_reducible refine (Oq.out _).mono ?_)); rintro e w_30 ⟨⟨v_30, rfl, n_30⟩, hb_30⟩)
      | (go_at_call 22; ((with_reducible refine (PL.out _ _ _ n_25 ?_).mono ?_)); exact And.right (And.right (by assumption)); rintro e w_26 ⟨⟨v_26, rfl, n_26⟩, hb_26⟩)
      | (go_at_call 24; ((with_reducible refine (T1.out _ _ _ (n_23.later hb_24) n_24).mono ?_)); rintro e w_25 ⟨⟨v_25, rfl, n_25⟩, hb_25⟩)
      | (go_at_call 15; ((with_reducible refine (Os.out _).mono ?_)); rintro e w_24 ⟨⟨v_24, rfl, n_24⟩, hb_24⟩)
      | (go_at_call 15; ((with_reducible refine (Op.out _).mono ?_)); rintro e w_23 ⟨⟨v_23, rfl, n_23⟩, hb_23⟩)))
  go_wp2
  go_ret3
  exact ⟨rfl, (by repeat (first | exact b4 | (refine bon ?_ (by assumption)) | refine bdrewN ?_ _ | refine bdrew ?_))⟩

end Go.Proofs.Ytkgaoafcjhjefaa
