/-
  What 'Over' does.
-/
import Derived.Test.YtkgaoafcjhjefaaRefG
import Derived.Test.YtkgaoafcjhjefaaRefH
namespace Go.Proofs.Ytkgaoafcjhjefaa
open Go.RowKit Go.Shelf

theorem sg_mul (s t : Bool) (x y : Int) : sg (s != t) (x * y) = sg s x * sg t y := by
  cases s <;> cases t <;> simp [sg, Int.neg_mul, Int.mul_neg]
theorem r_times (v1 v2 : Value) (z1 z2 : Int) (w : World) (h1 : Num w v1 z1) (h2 : Num w v2 z2) (s1 : Small z1) (s2 : Small z2) :
    Calls Try.prog 24 #[v1, v2] w fun e w' => (∃ v, e = .returned v ∧ Num w' v (z1 * z2)) ∧ Below w.heap.size w w' := by
  obtain ⟨A, c, xs, rfl, hl1, hL1, hd1, ht1, hv1⟩ := h1
  obtain ⟨B, d, ys, rfl, hl2, hL2, hd2, ht2, hv2⟩ := h2
  have n1 := len_small hd1 ht1 hv1 s1
  have n2 := len_small hd2 ht2 hv2 s2
  have h := times_core (decide (z1 < 0)) (decide (z2 < 0)) A B c d xs ys w hL1 hL2 hd1 hd2 (by omega) (by omega)
  rw [hv1, hv2, sg_mul, num_sg, num_sg] at h
  exact h

/- quotients, digit by digit -/
structure OInv (xs : List Int) (b : Int) (n k : Nat) (qs : List Int) (R : Int) : Prop where
  len : qs.length = n
  val : valD (xs.drop k) = valD (qs.drop k) * b + R
  lo : 0 ≤ R
  hi : R < b
  low : ∀ j, j < k → qs.getD j 0 = 0
  dig : ∀ j, 0 ≤ qs.getD j 0 ∧ qs.getD j 0 ≤ 9
/-- within a round: q taken away so far -/
structure OIn (xs : List Int) (b : Int) (n i : Nat) (qs0 : List Int) (R0 : Int) (q : Int) (R : Int) : Prop where
  val : xs.getD i 0 + 10 * R0 = q * b + R
  lo : 0 ≤ R
  q0 : 0 ≤ q
  q9 : q ≤ 9
theorem OIn.start {xs : List Int} {b : Int} {n i : Nat} {qs : List Int} {R : Int} (hx : Digs xs) (h : OInv xs b n (i + 1) qs R) : OIn xs b n i qs R 0 (xs.getD i 0 + 10 * R) :=
  ⟨by simp, by have := hx.get i; have := h.lo; omega, by omega, by omega⟩
theorem OIn.step {xs : List Int} {b : Int} {n i : Nat} {qs : List Int} {R0 q R : Int} (hx : Digs xs) (h0 : OInv xs b n (i + 1) qs R0) (h : OIn xs b n i qs R0 q R) (hR : b ≤ R) : OIn xs b n i qs R0 (q + 1) (R - b) := by
  obtain ⟨h1, h2, h3, h4⟩ := h
  have d := hx.get i
  have hlt := h0.hi
  refine ⟨by rw [Int.add_mul]; omega, by omega, by omega, ?_⟩
  rcases Int.lt_or_le q 9 with g | g
  · omega
  · exfalso
    obtain rfl : q = 9 := by omega
    omega
theorem drop_set (qs : List Int) (i : Nat) (v : Int) (h : i < qs.length) : valD ((qs.set i v).drop i) = v + 10 * valD (qs.drop (i + 1)) := by
  rw [valD_dropM _ _ (by simpa using h), getD_set _ _ _ _ h, if_pos rfl, List.drop_set_of_lt (by omega)]
theorem OIn.fin {xs : List Int} {b : Int} {n i : Nat} {qs : List Int} {R0 q R : Int} (hn : xs.length = n) (hi : i < n) (h0 : OInv xs b n (i + 1) qs R0) (h : OIn xs b n i qs R0 q R) (hR : R < b) : OInv xs b n i (qs.set i q) R := by
  obtain ⟨h1, h2, h3, h4⟩ := h
  have hl := h0.len
  refine ⟨by simpa using hl, ?_, h2, hR, ?_, ?_⟩
  · rw [valD_dropM xs i (by omega), drop_set _ _ _ (by omega), h0.val]
    grind
  · intro j hj
    rw [getD_set _ _ _ _ (by omega), if_neg (by omega)]; exact h0.low j (by omega)
  · intro j
    rw [getD_set _ _ _ _ (by omega)]
    split
    · omega
    · exact h0.dig j
theorem OInv.begin (xs : List Int) (b : Int) (hb : 0 < b) : OInv xs b xs.length xs.length (List.replicate xs.length 0) 0 := by
  refine ⟨by simp, by simp [valD], by omega, hb, ?_, ?_⟩
  · intro j hj; simp [List.getD, hj]
  · intro j
    by_cases hj : j < xs.length <;> simp [List.getD, hj]
theorem OInv.finish {xs : List Int} {b : Int} {n : Nat} {qs : List Int} {R : Int} (hb : 0 < b) (h : OInv xs b n 0 qs R) : Digs qs ∧ valD qs = valD xs / b ∧ R = valD xs % b := by
  have hv := h.val
  rw [List.drop_zero, List.drop_zero] at hv
  have h1 := h.lo; have h2 := h.hi
  refine ⟨digs_of qs fun j _ => h.dig j, ?_, ?_⟩
  · rw [hv, Int.add_comm, Int.add_mul_ediv_right _ _ (by omega), Int.ediv_eq_zero_of_lt h1 h2]; omega
  · rw [hv, Int.add_comm, Int.add_mul_emod_self_right, Int.emod_eq_of_lt h1 h2]
/-- a row that the call owns: where it lies -/
theorem row_at {w : World} {base e n : Nat} {v : Value} {ds : List Int} (h : w.ownsRow base e 1 v n (ds.map (Value.int .i64))) : ∃ (A : Option Addr) (c : Nat), v = .slice A ds.length c ∧ ds.length ≤ c ∧ Lies w A ds ∧ ∀ p, A = some p → base ≤ p.block := by
  obtain ⟨A, c, rfl, hc, hl⟩ := RowV.of_own h
  refine ⟨A, c, rfl, hc, hl, ?_⟩
  rintro p rfl
  exact (h.lt p.block rfl).1

set_option maxHeartbeats 1000000 in
set_option maxRecDepth 100000 in
theorem r_cut_at (s : Bool) (A : Option Addr) (c : Nat) (ds : List Int) (w : World) (h : Lies w A ds) (hd : Digs ds) (hl : ds.length ≤ c) (hn : ds.length ≤ 1000) :
    Calls Try.prog 57 #[.agg #[.bool s, .slice A ds.length c]] w fun e w' => (∃ t k, e = .returned (.agg #[.bool t, .slice A k c]) ∧ Num w' (.agg #[.bool t, .slice A k c]) (sg s (valD ds))) ∧ Below w.heap.size w w' := by
  have fin : Hid (∀ k, k ≤ ds.length → valD (ds.take k) = valD ds → (k = 0 ∨ ds.getD (k - 1) 0 ≠ 0) → ∀ t w', t = (s && decide (0 < (k : Int))) → Below w.heap.size w w' → Num w' (.agg #[.bool t, .slice A k c]) (sg s (valD ds))) := by
    rintro k hk hv ht t w' rfl hb
    have e : (ds.take k).length = k := by simp; omega
    have h0 : decide (0 < (k : Int)) = decide (0 < valD ds) := by
      rw [← hv]
      rcases k with _ | k
      · simp [valD]
      · have := valD_pos (ds.take (k + 1)) (hd.take _) (Or.inr (by rw [e, getD_take _ (by omega)]; exact ht.resolve_left (by omega))) (by intro hh; rw [hh] at e; simp at e)
        simp [this]
    refine ⟨A, c, ds.take k, ?_, by omega, (h.take k).later hb, hd.take k, ?_, ?_⟩
    · rw [e, sg_neg s hd.nonneg, h0]
    · rcases k with _ | k
      · exact Or.inl (by simp)
      · exact Or.inr (by rw [e, getD_take _ (by omega)]; exact ht.resolve_left (by omega))
    · rw [hv, sg_abs s hd.nonneg]
  have step : Hid (∀ k, ds.getD k 0 = 0 → valD (ds.take (k + 1)) = valD ds → valD (ds.take k) = valD ds) := by
    intro k h0 h1
    rw [valD_take, h0] at h1; omega
  have start : valD (ds.take ds.length) = valD ds := by simp
  have rd : Hid (∀ k : Nat, k < ds.length → ∃ g, A = some ⟨g, 0, none⟩ ∧ ∀ o p, ((w.alloc o).alloc p).cell? ⟨g, k, none⟩ = some (.int .i64 (ds.getD k 0))) := by
    intro k hk
    rcases h with rfl | ⟨g, rfl, hg, hc⟩
    · simp at hk
    · exact ⟨g, rfl, fun o p => cell_later (bal (bal (Below.refl _ _) _) _) (hc k hk)⟩
  generalize hf : (fun j => ds.getD j 0) = f
  have ef : ∀ j, ds.getD j 0 = f j := fun j => by rw [← hf]
  simp only [ef] at *
  generalize hvt : (fun j => valD (ds.take j)) = vt
  have ev : ∀ j, valD (ds.take j) = vt j := fun j => by rw [← hvt]
  simp only [ev] at *
  clear h hd ef ev hf hvt
  generalize valD ds = z at *
  generalize ds.length = n at *
  clear ds
  cases s
  all_goals
   go_enter Try.func57, Try.ntmps57
   go_wp2_with fail
   go_loop [3] (fun i => ∃ (k : Nat) (x : Int), k ≤ n ∧ i = .int .i64 x ∧ x = k ∧ vt k = z) (fun i => (intOf i).toNat)
   case atStart => exact ⟨n, _, by omega, rfl, rfl, start⟩
   case round =>
     obtain ⟨k, x, hk, rfl, hx, hv⟩ := hrel
     rcases k with _ | k
     · obtain rfl : x = 0 := by omega
       clear hx
       have fin0 := fin.out 0 (by omega) hv (Or.inl rfl)
       go_wp2_with fail
       go_region
       go_wp2
       first
         | exact bodyPost_ret (v := .agg #[.bool false, .slice A 0 c]) (by simp [results, Try.results57, go_sem]) rfl ⟨⟨_, _, rfl, fin0 _ _ (by first | rfl | (simp; done) | (simp; omega)) (by repeat (first | exact Below.refl _ _ | (refine bset ?_ (by simp) _) | refine bdrewN ?_ _ | refine bdrew ?_ | refine bal ?_ _))⟩, (by repeat (first | exact Below.refl _ _ | (refine bset ?_ (by simp) _) | refine bdrewN ?_ _ | refine bdrew ?_ | refine bal ?_ _))⟩
     · obtain rfl : x = (k : Int) + 1 := by omega
       clear hx
       obtain ⟨g, rfl, hrd⟩ := rd.out k (by omega)
       by_cases h0 : f k = 0
       · rw [h0] at hrd
         go_wp2
         go_round
         case rel => exact ⟨k, _, by omega, rfl, by omega, step.out k h0 hv⟩
         case measure => simp [intOf]
       · have fin1 := fin.out (k + 1) (by omega) hv (Or.inr h0)
         go_wp2_with fail
         go_region
         go_wp2
         first
           | exact bodyPost_ret (v := .agg #[.bool false, .slice (some ⟨g, 0, none⟩) (k + 1) c]) (by simp [results, Try.results57, go_sem]) rfl ⟨⟨_, _, rfl, fin1 _ _ (by first | rfl | (simp; done) | (simp; omega)) (by repeat (first | exact Below.refl _ _ | (refine bset ?_ (by simp) _) | refine bdrewN ?_ _ | refine bdrew ?_ | refine bal ?_ _))⟩, (by repeat (first | exact Below.refl _ _ | (refine bset ?_ (by simp) _) | refine bdrewN ?_ _ | refine bdrew ?_ | refine bal ?_ _))⟩
           | exact bodyPost_ret (v := .agg #[.bool true, .slice (some ⟨g, 0, none⟩) (k + 1) c]) (by simp [results, Try.results57, go_sem]) rfl ⟨⟨_, _, rfl, fin1 _ _ (by first | rfl | (simp; done) | (simp; omega)) (by repeat (first | exact Below.refl _ _ | (refine bset ?_ (by simp) _) | refine bdrewN ?_ _ | refine bdrew ?_ | refine bal ?_ _))⟩, (by repeat (first | exact Below.refl _ _ | (refine bset ?_ (by simp) _) | refine bdrewN ?_ _ | refine bdrew ?_ | refine bal ?_ _))⟩


set_option maxHeartbeats 2000000 in
set_option maxRecDepth 100000 in
theorem r_apart_at (A B : Option Addr) (c d : Nat) (xs ys : List Int) (w : World) (hx : Lies w A xs) (hy : Lies w B ys) (dx : Digs xs) (dy : Digs ys) (nx : xs.length ≤ 1000) (ny : ys.length ≤ xs.length) (hv : valD ys ≤ valD xs) :
    Calls Try.prog 58 #[.slice A xs.length c, .slice B ys.length d] w fun e w' =>
      (∃ A' c' ds, e = .returned (.slice A' ds.length c') ∧ ds.length ≤ c' ∧ Lies w' A' ds ∧ (∀ p, A' = some p → w.heap.size ≤ p.block) ∧ Digs ds ∧ ds.length = xs.length ∧ valD ds = valD xs - valD ys) ∧ Below w.heap.size w w' := by
  obtain ⟨i0, hi0, hz0, hz1, hz2⟩ := info_parts int_info
  have G := mkHid (fun i w h => r_at B d ys i w h (by omega))
  have bf := fun j => dx.get j
  have bg := fun j => dy.get j
  have rd : Hid (∀ k : Nat, k < xs.length → ∃ g, A = some ⟨g, 0, none⟩ ∧ ∀ w', Below w.heap.size w w' → w'.cell? ⟨g, k, none⟩ = some (.int .i64 (xs.getD k 0))) := by
    intro k hk
    rcases hx with rfl | ⟨g, rfl, hg, hc⟩
    · simp at hk
    · exact ⟨g, rfl, fun w' hb => cell_later hb (hc k hk)⟩
  obtain ⟨Inv, start, stp, fin⟩ : ∃ Inv : Nat → List Int → Int → Prop, Inv 0 [] 0 ∧ Hid (∀ (k : Nat) (ds : List Int) (r q e : Int), Inv k ds r → e = xs.getD k 0 - ys.getD k 0 - r + 10 * q → 0 ≤ e → e ≤ 9 → Inv (k + 1) (ds ++ [e]) q) ∧
      Hid (∀ (ds : List Int) (r : Int), Inv xs.length ds r → (r = 0 ∨ r = 1) → Digs ds ∧ ds.length = xs.length ∧ valD ds = valD xs - valD ys) := by
    refine ⟨fun k ds r => ds.length = k ∧ Digs ds ∧ valD ds = valD (xs.take k) - valD (ys.take k) + 10 ^ k * r, ⟨rfl, (fun d h => by simp at h), by simp [valD]⟩, ?_, ?_⟩
    · rintro k ds r q e ⟨hl, hd, hV⟩ he e0 e9
      refine ⟨by simp [hl], hd.append e0 e9, ?_⟩
      rw [valD_append, valD_take, valD_take, hl, Int.pow_succ]
      exact apart_step _ _ _ _ _ _ _ _ _ hV he
    · rintro ds r ⟨hl, hd, hV⟩ hr
      refine ⟨hd, hl, ?_⟩
      rw [List.take_length, List.take_of_length_le ny] at hV
      have h1 := hd.lt
      rw [hl] at h1
      rcases hr with rfl | rfl
      · omega
      · omega
  generalize hf : (fun j => xs.getD j 0) = f
  generalize hg : (fun j => ys.getD j 0) = g
  have ef : ∀ j, xs.getD j 0 = f j := fun j => by rw [← hf]
  have eg : ∀ j, ys.getD j 0 = g j := fun j => by rw [← hg]
  simp only [ef, eg] at *
  clear ef eg hf hg dx dy hx hv
  generalize valD xs - valD ys = z at *
  generalize xs.length = n at *
  generalize hm : ys.length = m at *
  clear xs
  go_enter Try.func58, Try.ntmps58
  go_wp2_with fail
  go_loopw [5, 6, 7] (fun o b i w' => ∃ (k : Nat) (x r : Int) (ds : List Int), k ≤ n ∧ i = .int .i64 x ∧ x = k ∧ b = .int .i64 r ∧ (r = 0 ∨ r = 1) ∧ Inv k ds r ∧ w'.ownsRow w.heap.size 3 1 o k (ds.map (Value.int .i64)) ∧ Below w.heap.size w w') (fun _ _ i _ => (n - intOf i).toNat)
  case atStart => exact ⟨0, 0, 0, [], by omega, rfl, rfl, rfl, Or.inl rfl, start, World.ownsRow_lit _ #[] 0 (Nat.le_refl _) (by decide) rfl, bal (Below.refl _ _) _⟩
  case round =>
    obtain ⟨k, x, r, ds, hk, rfl, hxk, rfl, hr, hI, hown, hb⟩ := hrel
    obtain rfl : x = (k : Int) := hxk
    by_cases hlt : k < n
    · have ba := bf k
      have bb := bg k
      clear bf bg start fin
      obtain ⟨h, rfl, hrd⟩ := rd.out k hlt
      have hc := hrd _ hb
      have W1 : IntKind.i64.wrap (f k - g k) = f k - g k := IntWalk.i64_in _ (by omega)
      have W2 : IntKind.i64.wrap (f k - g k - r) = f k - g k - r := IntWalk.i64_in _ (by omega)
      have hyr := hy.later hb
      have stk := fun q e => stp.out k ds r q e hI
      clear rd stp hrd hI hy
      go_wp2_with fail
      go_region_held2 (fun w' => w'.cell? ⟨h, k, none⟩ = some (.int .i64 (f k)) ∧ Lies w' B ys)
        (first | exact ⟨hc, hyr⟩ | assumption)
        ((go_at_call 59; refine (G.out k _ (And.right (by assumption))).mono ?_; rintro e w50 ⟨rfl, rfl⟩))
      by_cases hneg : f k - g k - r < 0
      · have hS := stk 1 (f k - g k - r + 10) (by omega) (by omega) (by omega)
        clear stk
        go_wp2_with (at_builtin
                     refine wpList_append_own _ rfl (.tmp 30) (.tmp 32) _ rfl w.heap.size 3 i0 _ 1 8 Try.underlying23 hi0 hz0 hz1 hz2 rfl (by omega) u5 k (ds.map (Value.int .i64)) rfl (World.ownsRow.alloc hown _) ⟨wr.heap.size, 0, none⟩ 1 1 [.int .i64 (f k - g k - r + 10)] rfl rfl (cells_one _ _ _) (ints_oneCell .i64 [f k - g k - r + 10]) (by simp only [maxLen]; omega) (by omega) (by have := hb.size; simp; omega) ?_
                     intro v1 w1 hown1 hg1 hv1)
        go_roundw
        case rel => exact ⟨k + 1, _, 1, ds ++ [f k - g k - r + 10], by omega, rfl, by omega, rfl, Or.inr rfl, hS, by simpa using hown1, Below.grown (bdrew (bal hb _)) hg1 (by have := hb.size; simp; omega) (fun j hj => (hown.lt j hj).1)⟩
        case measure => simp [intOf]; omega
      · have hS := stk 0 (f k - g k - r) (by omega) (by omega) (by omega)
        clear stk
        go_wp2_with (at_builtin
                     refine wpList_append_own _ rfl (.tmp 30) (.tmp 32) _ rfl w.heap.size 3 i0 _ 1 8 Try.underlying23 hi0 hz0 hz1 hz2 rfl (by omega) u5 k (ds.map (Value.int .i64)) rfl (World.ownsRow.alloc hown _) ⟨wr.heap.size, 0, none⟩ 1 1 [.int .i64 (f k - g k - r)] rfl rfl (cells_one _ _ _) (ints_oneCell .i64 [f k - g k - r]) (by simp only [maxLen]; omega) (by omega) (by have := hb.size; simp; omega) ?_
                     intro v1 w1 hown1 hg1 hv1)
        go_roundw
        case rel => exact ⟨k + 1, _, 0, ds ++ [f k - g k - r], by omega, rfl, by omega, rfl, Or.inl rfl, hS, by simpa using hown1, Below.grown (bdrew (bal hb _)) hg1 (by have := hb.size; simp; omega) (fun j hj => (hown.lt j hj).1)⟩
        case measure => simp [intOf]; omega
    · obtain rfl : k = n := by omega
      have hfin := fin.out ds r hI hr
      obtain ⟨A9, c9, e9, hc9, hl9, hg9⟩ := row_at hown
      subst e9
      go_wp2
      go_ret
      exact ⟨⟨A9, c9, ds, rfl, hc9, hl9, hg9, hfin⟩, hb⟩

end Go.Proofs.Ytkgaoafcjhjefaa
