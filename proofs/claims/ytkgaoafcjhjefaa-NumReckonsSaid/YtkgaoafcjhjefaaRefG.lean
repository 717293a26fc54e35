/-
  What 'Plus' does with two numbers of one sign; what it does with any two.
-/
import Derived.Test.YtkgaoafcjhjefaaRefF
namespace Go.Proofs.Ytkgaoafcjhjefaa
open Go.RowKit Go.Shelf

theorem plus_step (T X Y V a b r e q : Int) (hV : V + T * r = X + Y) (hd : a + b + r = e + 10 * q) : (V + T * e) + T * 10 * q = (X + T * a) + (Y + T * b) := by grind
theorem digit_sum (a b r : Int) (ha : 0 ≤ a ∧ a ≤ 9) (hb : 0 ≤ b ∧ b ≤ 9) (hr : r = 0 ∨ r = 1) :
    (a + b + r).tmod 10 = (a + b + r) % 10 ∧ (a + b + r).tdiv 10 = (a + b + r) / 10 ∧ 0 ≤ (a + b + r) % 10 ∧ (a + b + r) % 10 ≤ 9 ∧ ((a + b + r) / 10 = 0 ∨ (a + b + r) / 10 = 1) := by
  have h0 : 0 ≤ a + b + r := by omega
  exact ⟨Int.tmod_eq_emod_of_nonneg h0, Int.tdiv_eq_ediv_of_nonneg h0, by omega, by omega, by omega⟩

/-- the boxes of the two numbers and of the result -/
structure PB (w0 : World) (s t : Bool) (A B : Option Addr) (n m c d : Nat) (w : World) : Prop where
  a0 : w.cell? ⟨w0.heap.size, 0, none⟩ = some (.bool s)
  a1 : w.cell? ⟨w0.heap.size, 1, none⟩ = some (.slice A n c)
  b0 : w.cell? ⟨w0.heap.size + 1, 0, none⟩ = some (.bool t)
  b1 : w.cell? ⟨w0.heap.size + 1, 1, none⟩ = some (.slice B m d)
  r : Two w (w0.heap.size + 1 + 1) (.bool false) (.slice none 0 0)
  bel : Below w0.heap.size w0 w
  big : w0.heap.size + 3 ≤ w.heap.size
theorem PB.keep {w0 : World} {s t : Bool} {A B : Option Addr} {n m c d : Nat} {w w' : World} (h : PB w0 s t A B n m c d w) (hb : Below (w0.heap.size + 3) w w') : PB w0 s t A B n m c d w' where
  a0 := by rw [hb.cell (by simp)]; exact h.a0
  a1 := by rw [hb.cell (by simp)]; exact h.a1
  b0 := by rw [hb.cell (by simp)]; exact h.b0
  b1 := by rw [hb.cell (by simp)]; exact h.b1
  r := by
    obtain ⟨r0, r1, f0, f1⟩ := h.r
    refine ⟨?_, ?_, ?_, ?_⟩
    · rw [hb.cell (by simp)]; exact r0
    · rw [hb.cell (by simp)]; exact r1
    · rw [hb.frozen (by simp)]; exact f0
    · rw [hb.frozen (by simp)]; exact f1
  bel := h.bel.trans (hb.mono (by omega))
  big := Nat.le_trans h.big hb.size
theorem quietR {P : Program} {f : FuncId} {args : Array Value} {w : World} {n : Nat} {v : Value}
    (h : Calls P f args (w.drewN n) fun e w' => e = .returned v ∧ w.drewN n = w') : Calls P f args (w.drewN n) fun e w'' => e = .returned v ∧ ∃ m, w'' = w.drewN m :=
  h.mono fun _ _ ⟨he, hm⟩ => ⟨he, n, hm.symm⟩
theorem own_drewN {w : World} {base e size n : Nat} {v : Value} {xs : List Value} (h : w.ownsRow base e size v n xs) (q : Nat) : (w.drewN q).ownsRow base e size v n xs := h

set_option maxHeartbeats 4000000 in
set_option maxRecDepth 100000 in
theorem plus_same (s : Bool) (A B : Option Addr) (c d : Nat) (xs ys : List Int) (w : World) (hx : Lies w A xs) (hy : Lies w B ys) (dx : Digs xs) (dy : Digs ys) (nx : xs.length ≤ 100) (ny : ys.length ≤ 100) :
    Calls Try.prog 22 #[.agg #[.bool s, .slice A xs.length c], .agg #[.bool s, .slice B ys.length d]] w fun e w' => (∃ v, e = .returned v ∧ Num w' v (sg s (valD xs + valD ys))) ∧ Below w.heap.size w w' := by
  obtain ⟨i0, hi0, hz0, hz1, hz2⟩ := info_parts int_info
  have GA := mkHid (fun i w h => r_at A c xs i w h (by omega))
  have GB := mkHid (fun i w h => r_at B d ys i w h (by omega))
  have CT := mkHid (fun A c ds w h hd hl hn => r_cut s A c ds w h hd hl hn)
  have bf := mkHid (fun j => dx.get j)
  have bg := mkHid (fun j => dy.get j)
  have zf : ∀ j, xs.length ≤ j → xs.getD j 0 = 0 := fun j hj => by simp [List.getD, List.getElem?_eq_none hj]
  have zg : ∀ j, ys.length ≤ j → ys.getD j 0 = 0 := fun j hj => by simp [List.getD, List.getElem?_eq_none hj]
  have zero : Hid (xs.getD (max xs.length ys.length) 0 = 0 ∧ ys.getD (max xs.length ys.length) 0 = 0) := ⟨zf _ (by omega), zg _ (by omega)⟩
  obtain ⟨Inv, start, stp, fin⟩ : ∃ Inv : Nat → List Int → Int → Prop, Inv 0 [] 0 ∧ Hid (∀ (k : Nat) (ds : List Int) (r q e : Int), Inv k ds r → xs.getD k 0 + ys.getD k 0 + r = e + 10 * q → 0 ≤ e → e ≤ 9 → Inv (k + 1) (ds ++ [e]) q) ∧
      Hid (∀ (ds : List Int), Inv (max xs.length ys.length + 1) ds 0 → Digs ds ∧ ds.length = max xs.length ys.length + 1 ∧ valD ds = valD xs + valD ys) := by
    refine ⟨fun k ds r => ds.length = k ∧ Digs ds ∧ valD ds + 10 ^ k * r = valD (xs.take k) + valD (ys.take k), ⟨rfl, (fun d h => by simp at h), by simp [valD]⟩, ?_, ?_⟩
    · rintro k ds r q e ⟨hl, hd, hV⟩ he e0 e9
      refine ⟨by simp [hl], hd.append e0 e9, ?_⟩
      rw [valD_append, valD_take, valD_take, hl, Int.pow_succ]
      exact plus_step _ _ _ _ _ _ _ _ _ hV he
    · rintro ds ⟨hl, hd, hV⟩
      refine ⟨hd, hl, ?_⟩
      rw [List.take_of_length_le (by omega), List.take_of_length_le (by omega)] at hV
      omega
  generalize hf : (fun j => xs.getD j 0) = f
  generalize hg : (fun j => ys.getD j 0) = g
  have ef : ∀ j, xs.getD j 0 = f j := fun j => by rw [← hf]
  have eg : ∀ j, ys.getD j 0 = g j := fun j => by rw [← hg]
  simp only [ef, eg] at *
  clear ef eg hf hg dx dy zf zg
  generalize valD xs + valD ys = z at *
  generalize hM : max xs.length ys.length = M at *
  have hM1 : M ≤ 100 := by omega
  generalize hn : xs.length = n at *
  generalize hm : ys.length = m at *
  have hmax : Hid (M = max n m) := hM.symm
  clear hM
  go_enter Try.func22, Try.ntmps22
  go_wp2_with fail
  have hP0 : PB w s s A B n m c d ((((w.alloc (.cells #[.bool s, .slice A n c] 25)).alloc (.cells #[.bool s, .slice B m d] 25)).alloc (.cells #[.bool false, .slice none 0 0] 25)).alloc (.cells #[] 3)) :=
    ⟨by simp [go_sem], by simp [go_sem], by simp [go_sem], by simp [go_sem], by simp [Two, go_sem], bal (bal (bal (bal (Below.refl _ _) _) _) _) _, by simp⟩
  have hO0 : ((((w.alloc (.cells #[.bool s, .slice A n c] 25)).alloc (.cells #[.bool s, .slice B m d] 25)).alloc (.cells #[.bool false, .slice none 0 0] 25)).alloc (.cells #[] 3)).ownsRow (w.heap.size + 3) 3 1 (.slice (some ⟨w.heap.size + 1 + 1 + 1, 0, none⟩) 0 0) 0 (([] : List Int).map (Value.int .i64)) := by
    have := World.ownsRow_lit (base := w.heap.size + 3) (e := 3) (size := 1) (((w.alloc (.cells #[.bool s, .slice A n c] 25)).alloc (.cells #[.bool s, .slice B m d] 25)).alloc (.cells #[.bool false, .slice none 0 0] 25)) #[] 0 (by simp) (by decide) rfl
    simpa using this
  go_loopw [5, 6, 7] (fun o b q w' => ∃ (k : Nat) (x r : Int) (ds : List Int), k ≤ M + 1 ∧ q = .int .i64 x ∧ x = k ∧ b = .int .i64 r ∧ (r = 0 ∨ r = 1) ∧ (k = M + 1 → r = 0) ∧ Inv k ds r ∧ w'.ownsRow (w.heap.size + 3) 3 1 o k (ds.map (Value.int .i64)) ∧ PB w s s A B n m c d w') (fun _ _ q _ => (M + 1 - intOf q).toNat)
  case atStart => exact ⟨0, 0, 0, [], by omega, rfl, rfl, rfl, Or.inl rfl, fun _ => rfl, start, hO0, hP0⟩
  case round =>
    obtain ⟨k, x, r, ds, hk, rfl, hxk, rfl, hr, hr0, hI, hown, hB⟩ := hrel
    obtain rfl : x = (k : Int) := hxk
    clear hP0 hO0 start
    have a1 := hB.a1; have b1 := hB.b1
    by_cases hlt : k ≤ M
    · have fk := bf.out k
      have gk := bg.out k
      obtain ⟨t1, t2, t3, t4, t5⟩ := digit_sum (f k) (g k) r fk gk hr
      have hS := mkHid (stp.out k ds r ((f k + g k + r) / 10) ((f k + g k + r) % 10) hI (by omega) t3 t4)
      have hz : k + 1 = M + 1 → (f k + g k + r) / 10 = 0 := by
        intro e
        obtain rfl : k = M := by omega
        have := zero.out
        omega
      have u1 : IntKind.i64.wrap (f k + g k) = f k + g k := IntWalk.i64_in _ (by omega)
      have e1 : wrap64 (f k + g k) = f k + g k := by unfold wrap64; omega
      have u2 : IntKind.i64.wrap (f k + g k + r) = f k + g k + r := IntWalk.i64_in _ (by omega)
      have d0 : 0 ≤ f k + g k + r := by omega
      have d1 : f k + g k + r ≤ 19 := by omega
      have HA : Hid (∀ q, Lies (wr.drewN q) A xs) := fun q => hx.later (bdrewN hB.bel q)
      have HB : Hid (∀ q, Lies (wr.drewN q) B ys) := fun q => hy.later (bdrewN hB.bel q)
      have GA1 := mkHid (GA.out k)
      have GB1 := mkHid (GB.out k)
      have hmx := hmax.out
      clear fin stp hI bf bg zero GA GB fk gk CT hr hr0 t1 t2 hx hy
      generalize hfk : f k = fk at *
      generalize hgk : g k = gk at *
      clear hfk hgk
      obtain ⟨D, hD⟩ : ∃ D, fk + gk + r = D := ⟨_, rfl⟩
      rw [hD] at hS t3 t4 t5 hz d0 d1 u2
      have e2 : wrap64 (fk + gk + r) = D := by rw [hD]; unfold wrap64; omega
      have u3 : IntKind.i64.wrap (fk + gk + r) = D := by rw [hD]; exact u2
      have e3 : D.tmod 10 = D % 10 := Int.tmod_eq_emod_of_nonneg d0
      have e4 : D.tdiv 10 = D / 10 := Int.tdiv_eq_ediv_of_nonneg d0
      have T5 := mkHid t5
      have HZ := mkHid hz
      clear hD t5 hz u2
      rcases Nat.le_total n m with hnm | hnm
      · obtain rfl : M = m := by omega
        clear hmx hmax
        go_wp2_with fail
        all_goals
          go_quiet ((go_at_call 59; first | with_reducible exact quietR (GA1.out _ (HA.out _)) | with_reducible exact quietR (GB1.out _ (HB.out _))))
          go_wp2_with (at_builtin
                       refine wpList_append_own _ rfl (.tmp 61) (.tmp 64) _ rfl (w.heap.size + 3) 3 i0 _ 1 8 Try.underlying23 hi0 hz0 hz1 hz2 rfl (by omega) u5 k (ds.map (Value.int .i64)) rfl (World.ownsRow.alloc (own_drewN hown _) _) ⟨wr.heap.size, 0, none⟩ 1 1 [.int .i64 (D % 10)] rfl rfl (cells_one _ _ _) (ints_oneCell .i64 [D % 10]) (by simp only [maxLen]; omega) (by omega) (by have := hB.big; simp; omega) ?_
                       intro v1 w1 hown1 hg1 hv1)
          go_roundw
          case rel => exact ⟨k + 1, _, D / 10, ds ++ [D % 10], by omega, rfl, by omega, rfl, T5.out, HZ.out, hS.out, by simpa using hown1, hB.keep (Below.grown ((below_drewN (Below.refl _ _) _).alloc (by have := hB.big; simpa using this) _) hg1 (by have := hB.big; simp; omega) (fun j hj => (hown.lt j hj).1))⟩
          case measure => simp [intOf]; omega
      · obtain rfl : M = n := by omega
        clear hmx hmax
        go_wp2_with fail
        all_goals
          go_quiet ((go_at_call 59; first | with_reducible exact quietR (GA1.out _ (HA.out _)) | with_reducible exact quietR (GB1.out _ (HB.out _))))
          go_wp2_with (at_builtin
                       refine wpList_append_own _ rfl (.tmp 61) (.tmp 64) _ rfl (w.heap.size + 3) 3 i0 _ 1 8 Try.underlying23 hi0 hz0 hz1 hz2 rfl (by omega) u5 k (ds.map (Value.int .i64)) rfl (World.ownsRow.alloc (own_drewN hown _) _) ⟨wr.heap.size, 0, none⟩ 1 1 [.int .i64 (D % 10)] rfl rfl (cells_one _ _ _) (ints_oneCell .i64 [D % 10]) (by simp only [maxLen]; omega) (by omega) (by have := hB.big; simp; omega) ?_
                       intro v1 w1 hown1 hg1 hv1)
          go_roundw
          case rel => exact ⟨k + 1, _, D / 10, ds ++ [D % 10], by omega, rfl, by omega, rfl, T5.out, HZ.out, hS.out, by simpa using hown1, hB.keep (Below.grown ((below_drewN (Below.refl _ _) _).alloc (by have := hB.big; simpa using this) _) hg1 (by have := hB.big; simp; omega) (fun j hj => (hown.lt j hj).1))⟩
          case measure => simp [intOf]; omega
    · obtain rfl : k = M + 1 := by omega
      obtain rfl := hr0 rfl
      obtain ⟨q1, q2, q3⟩ := fin.out ds hI
      have hL := RowV.of_own hown
      obtain ⟨A9, c9, e9, hc9, hl9⟩ := hL
      subst e9
      have C9 := CT.out A9 c9 ds wr hl9 q1 hc9 (by omega)
      rw [q3] at C9
      have H9 := mkHid C9
      have a0 := hB.a0
      have hmx := hmax.out
      have m1 : n ≤ M := by omega
      have m2 : m ≤ M := by omega
      have m3 : (n : Int) < (M : Int) + 1 := by omega
      have m4 : (m : Int) < (M : Int) + 1 := by omega
      have m5 : ¬ (M : Int) + 1 ≤ (n : Int) := by omega
      have m6 : ¬ (M : Int) + 1 ≤ (m : Int) := by omega
      have m7 : ¬ M + 1 ≤ n := by omega
      have m8 : ¬ M + 1 ≤ m := by omega
      clear C9 CT fin q1 q2 q3 hl9 stp hI bf bg zero GA GB hr0 hx hy hmx hmax hown hlt
      go_wp2_with fail
      all_goals
        ((with_reducible refine H9.out.mono ?_)); rintro e w2 ⟨⟨v1, rfl, hN⟩, hb2⟩
        obtain ⟨A1, c1, n1, rfl⟩ := hN.open_
        have t_r := Two.later hb2 hB.r
        have hbel := hB.bel
        generalize decide (sg s z < 0) = s1 at *
        have x0 := t_r.1; have x1 := t_r.2.1; have y0 := t_r.2.2.1; have y1 := t_r.2.2.2
        clear H9 hB t_r
        go_wp2
        refine bodyPost_ret (v := .agg #[.bool s1, .slice A1 n1 c1]) (by simp [results, Try.results22, go_sem, x0, x1]) rfl ⟨⟨_, rfl, hN.set x0 _ _⟩, ?_⟩
        exact bset (bset (bon hbel hb2) (by simp; omega) _) (by simp; omega) _

theorem num_sg (z : Int) : sg (decide (z < 0)) (z.natAbs : Int) = z := by
  by_cases h : z < 0 <;> simp [sg, h] <;> omega
theorem sg_add (s : Bool) (x y : Int) : sg s (x + y) = sg s x + sg s y := by cases s <;> simp [sg] <;> omega
theorem sg_sub (s : Bool) (x y : Int) : sg s (x - y) = sg s x + sg (!s) y := by cases s <;> simp [sg] <;> omega
theorem r_plus (v1 v2 : Value) (z1 z2 : Int) (w : World) (h1 : Num w v1 z1) (h2 : Num w v2 z2) (s1 : Small z1) (s2 : Small z2) :
    Calls Try.prog 22 #[v1, v2] w fun e w' => (∃ v, e = .returned v ∧ Num w' v (z1 + z2)) ∧ Below w.heap.size w w' := by
  obtain ⟨A, c, xs, rfl, hl1, hL1, hd1, ht1, hv1⟩ := h1
  obtain ⟨B, d, ys, rfl, hl2, hL2, hd2, ht2, hv2⟩ := h2
  have n1 := len_small hd1 ht1 hv1 s1
  have n2 := len_small hd2 ht2 hv2 s2
  have e1 := num_sg z1
  have e2 := num_sg z2
  by_cases hs : decide (z2 < 0) = decide (z1 < 0)
  · have h := plus_same (decide (z1 < 0)) A B c d xs ys w hL1 hL2 hd1 hd2 (by omega) (by omega)
    rw [hv1, hv2, sg_add, e1] at h
    rw [← hs, e2] at h
    rw [← hs]; exact h
  · have hs' : decide (z2 < 0) = !decide (z1 < 0) := by
      cases h1 : decide (z1 < 0) <;> cases h2 : decide (z2 < 0) <;> simp_all
    have h := plus_apart (decide (z1 < 0)) A B c d xs ys w hL1 hL2 hd1 hd2 ht1 ht2 (by omega) (by omega)
    rw [hv1, hv2, sg_sub, e1, ← hs', e2] at h
    exact h
end Go.Proofs.Ytkgaoafcjhjefaa
