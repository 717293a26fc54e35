/-
  What package prop's functions answer of a clause, and of all clauses: asked, best, Eval; assume.
-/
import Derived.Test.YtilhamnibdjfaaaPrC
namespace Go.Proofs.Ytilhamnibdjfaaa
open Go.RowKit

def Fit (R : List Int) : Prop := ∀ x ∈ R, -9223372036854775808 ≤ x ∧ x ≤ 9223372036854775807
theorem Fit.get {R : List Int} (h : Fit R) (j : Nat) (hj : j < R.length) : -9223372036854775808 ≤ R.getD j 0 ∧ R.getD j 0 ≤ 9223372036854775807 := by
  have e : R.getD j 0 = R[j] := by rw [List.getD_eq_getElem?_getD, List.getElem?_eq_getElem hj]; rfl
  rw [e]; exact h _ (List.getElem_mem _)
def askV : Option Int → Value
  | some r => .tuple #[.int .i64 r, .bool true]
  | none => .tuple #[.int .i64 0, .bool false]
theorem drop_get {R : List Int} {k : Nat} (h : k < R.length) : R.drop k = R.getD k 0 :: R.drop (k + 1) := by
  rw [List.drop_eq_getElem_cons h, List.getD_eq_getElem?_getD, List.getElem?_eq_getElem h]; rfl
theorem ask_end {A R : List Int} {o : Int} {k : Nat} (h : k = R.length) (e : ask A R = askGo A o (R.drop k)) : ask A R = some o := by
  rw [e, h, List.drop_length]; rfl
theorem ask_cons {A R : List Int} {o : Int} {k : Nat} (h : k < R.length) (e : ask A R = askGo A o (R.drop k)) :
    (wh A (R.getD k 0) = 1 → ask A R = none) ∧ (wh A (R.getD k 0) = 0 → o ≠ 0 → o ≠ R.getD k 0 → ask A R = none) ∧ (wh A (R.getD k 0) = 0 → (o = 0 ∨ o = R.getD k 0) → ask A R = askGo A (R.getD k 0) (R.drop (k + 1))) ∧ (wh A (R.getD k 0) = -1 → ask A R = askGo A o (R.drop (k + 1))) := by
  rw [drop_get h] at e
  unfold askGo at e
  refine ⟨fun h1 => ?_, fun h1 h2 h3 => ?_, fun h1 h2 => ?_, fun h1 => ?_⟩
  · rw [e, if_pos h1]
  · rw [e, if_neg (by omega), if_pos h1, if_pos ⟨h2, h3⟩]
  · rw [e, if_neg (by omega), if_pos h1, if_neg (by omega)]
  · rw [e, if_neg (by omega), if_neg (by omega)]
set_option maxRecDepth 100000 in
set_option maxHeartbeats 4000000 in
theorem asked_any (R A : List Int) (v u : Value) (w : World) (hv : RK .i64 w v R) (hu : RK .i8 w u A) (hl : R.length ≤ 1000) (hA : A.length ≤ 1000) (hf : Fit R) :
    Calls Try.prog 21 #[v, u] w (RetV (askV (ask A R)) w) := by
  have WH := mkHid (fun x w hu h1 h2 => what_any x A u w hu hA h1 h2)
  obtain ⟨a, c, rfl, hc, -, hr⟩ := hv
  have HR := mkHid hr
  have HF := mkHid hf.get
  have HU := mkHid hu
  have HE := mkHid (fun k o (h : k = R.length) e => ask_end (A := A) (o := o) h e)
  have HC := mkHid (fun k o (h : k < R.length) e => ask_cons (A := A) (o := o) h e)
  have H0 : Hid (ask A R = askGo A 0 (R.drop 0)) := rfl
  clear hr hf hu
  generalize R.length = n at *
  obtain ⟨f, hfd⟩ : ∃ f : Nat → Int, f = fun j => R.getD j 0 := ⟨_, rfl⟩
  have ef : ∀ j, R.getD j 0 = f j := fun j => by rw [hfd]
  simp only [ef] at *
  clear ef hfd
  obtain ⟨J, J0, JE, JC⟩ : ∃ J : Int → Nat → Prop, J 0 0 ∧ Hid (∀ k o, k = n → J o k → ask A R = some o) ∧ Hid (∀ k o, k < n → J o k → (wh A (f k) = 1 → ask A R = none) ∧ (wh A (f k) = 0 → o ≠ 0 → o ≠ f k → ask A R = none) ∧ (wh A (f k) = 0 → (o = 0 ∨ o = f k) → J (f k) (k + 1)) ∧ (wh A (f k) = -1 → J o (k + 1))) :=
    ⟨fun o k => ask A R = askGo A o (R.drop k), H0.out, fun k o h e => HE.out k o h e, fun k o h e => HC.out k o h e⟩
  clear HE HC H0
  generalize ask A R = res at *
  go_enter Try.func21, Try.ntmps21
  go_wp2
  go_loopw [6, 11] (fun q i w' => ∃ (k : Nat) (x o : Int), k ≤ n ∧ i = .int .i64 x ∧ x = k ∧ q = .int .i64 o ∧ Hid (J o k) ∧ Hid (Below w.heap.size w w')) (fun _ i _ => (n - intOf i).toNat)
  case atStart => exact ⟨0, 0, 0, Nat.zero_le _, rfl, rfl, rfl, J0, mkHid (Below.refl _ _)⟩
  case round =>
    obtain ⟨k, x, o, hk, rfl, hxk, rfl, HJ, HB⟩ := hrel
    obtain rfl : x = (k : Int) := hxk
    clear J0
    by_cases hlt : k < n
    · obtain ⟨b, of, rfl, e1⟩ := HR.out k hlt
      obtain ⟨c1, c2, c3, c4⟩ := JC.out k o hlt HJ.out
      have C1 := mkHid c1
      have C2 := mkHid c2
      have C3 := mkHid c3
      have C4 := mkHid c4
      obtain ⟨f1, f2⟩ := HF.out k hlt
      have g1 := cell_later HB.out e1
      clear c1 c2 c3 c4 JC JE HR HF e1
      have hlt' : (k : Int) < (n : Int) := by omega
      have W1 := mkHid (fun w hu => WH.out (f k) w hu f1 f2)
      clear WH f1 f2
      rcases wh_cases A (f k) with h1 | h1 | h1
      · rw [h1] at W1
        have HN := mkHid (C1.out h1)
        clear C1 C2 C3 C4
        generalize f k = y at *
        go_wp2_with (go_at_call 27; ((with_reducible refine (W1.out _ (HU.out.later HB.out)).mono ?_)); rintro e w4 ⟨rfl, hb4⟩)
        go_ret2
        exact ⟨by rw [HN.out]; rfl, bon HB.out hb4⟩
      · rw [h1] at W1
        by_cases ho : o = 0
        · subst ho
          have HN := mkHid (C3.out h1 (.inl rfl))
          clear C1 C2 C3 C4
          generalize f k = y at *
          go_wp2_with (go_at_call 27; ((with_reducible refine (W1.out _ (HU.out.later HB.out)).mono ?_)); rintro e w4 ⟨rfl, hb4⟩)
          go_roundw
          case rel => exact ⟨k + 1, _, _, by omega, rfl, by omega, rfl, HN, mkHid (bon HB.out hb4)⟩
          case measure => simp [intOf]; omega
        · by_cases ho2 : o = f k
          · have HN := mkHid (C3.out h1 (.inr ho2))
            clear C1 C2 C3 C4
            generalize f k = y at *
            subst ho2
            have hb1 : (o != 0) = true := by rw [bne_iff_ne]; exact ho
            have hb2 : (o != o) = false := by simp
            go_wp2_with (go_at_call 27; ((with_reducible refine (W1.out _ (HU.out.later HB.out)).mono ?_)); rintro e w4 ⟨rfl, hb4⟩)
            go_roundw
            case rel => exact ⟨k + 1, _, _, by omega, rfl, by omega, rfl, HN, mkHid (bon HB.out hb4)⟩
            case measure => simp [intOf]; omega
          · have HN := mkHid (C2.out h1 ho ho2)
            clear C1 C2 C3 C4
            generalize f k = y at *
            have hb1 : (o != 0) = true := by rw [bne_iff_ne]; exact ho
            have hb2 : (o != y) = true := by rw [bne_iff_ne]; exact ho2
            go_wp2_with (go_at_call 27; ((with_reducible refine (W1.out _ (HU.out.later HB.out)).mono ?_)); rintro e w4 ⟨rfl, hb4⟩)
            go_ret2
            exact ⟨by rw [HN.out]; rfl, bon HB.out hb4⟩
      · rw [h1] at W1
        have HN := mkHid (C4.out h1)
        clear C1 C2 C3 C4
        generalize f k = y at *
        go_wp2_with (go_at_call 27; ((with_reducible refine (W1.out _ (HU.out.later HB.out)).mono ?_)); rintro e w4 ⟨rfl, hb4⟩)
        go_roundw
        case rel => exact ⟨k + 1, _, _, by omega, rfl, by omega, rfl, HN, mkHid (bon HB.out hb4)⟩
        case measure => simp [intOf]; omega
    · have HN := mkHid (JE.out k o (by omega) HJ.out)
      clear JC JE HR HF WH
      have hlt' : ¬ (k : Int) < (n : Int) := by omega
      go_wp2
      go_ret2
      exact ⟨by rw [HN.out]; rfl, HB.out⟩
theorem foldl_drop {α β : Type} [Inhabited α] {f : β → α → β} {R : List α} {d : α} {m : β} {k : Nat} (h : k < R.length) : (R.drop k).foldl f m = (R.drop (k + 1)).foldl f (f m (R.getD k d)) := by
  rw [List.drop_eq_getElem_cons h, List.foldl_cons, List.getD_eq_getElem?_getD, List.getElem?_eq_getElem h]; rfl
set_option maxRecDepth 100000 in
set_option maxHeartbeats 4000000 in
theorem best_any (R A : List Int) (v u : Value) (w : World) (hv : RK .i64 w v R) (hu : RK .i8 w u A) (hl : R.length ≤ 1000) (hA : A.length ≤ 1000) (hf : Fit R) :
    Calls Try.prog 24 #[v, u] w (RetV (.int .i8 (best A R)) w) := by
  have WH := mkHid (fun x w hu h1 h2 => what_any x A u w hu hA h1 h2)
  obtain ⟨a, c, rfl, hc, -, hr⟩ := hv
  have HR := mkHid hr
  have HF := mkHid hf.get
  have HU := mkHid hu
  obtain ⟨J, J0, JE, JC⟩ : ∃ J : Int → Nat → Prop, J (-1) 0 ∧ Hid (∀ k o, k = R.length → J o k → best A R = o) ∧ Hid (∀ k o, k < R.length → J o k → -1 ≤ o ∧ o ≤ 1 ∧ J (max o (wh A (R.getD k 0))) (k + 1)) :=
    ⟨fun o k => -1 ≤ o ∧ o ≤ 1 ∧ best A R = (R.drop k).foldl (fun m x => max m (wh A x)) o, ⟨by omega, by omega, rfl⟩, fun k o h ⟨_, _, e⟩ => by rw [e, h, List.drop_length]; rfl,
      fun k o h ⟨e1, e2, e⟩ => ⟨e1, e2, by have := wh_cases A (R.getD k 0); omega, by have := wh_cases A (R.getD k 0); omega, by rw [e, foldl_drop (d := 0) h]⟩⟩
  clear hr hf hu
  generalize R.length = n at *
  obtain ⟨f, hfd⟩ : ∃ f : Nat → Int, f = fun j => R.getD j 0 := ⟨_, rfl⟩
  have ef : ∀ j, R.getD j 0 = f j := fun j => by rw [hfd]
  simp only [ef] at *
  clear ef hfd
  generalize best A R = res at *
  go_enter Try.func24, Try.ntmps24
  go_wp2
  go_loopw [5, 10] (fun q i w' => ∃ (k : Nat) (x o : Int), k ≤ n ∧ i = .int .i64 x ∧ x = k ∧ q = .int .i8 o ∧ Hid (J o k) ∧ Hid (Below w.heap.size w w')) (fun _ i _ => (n - intOf i).toNat)
  case atStart => exact ⟨0, 0, -1, Nat.zero_le _, rfl, rfl, rfl, J0, mkHid (Below.refl _ _)⟩
  case round =>
    obtain ⟨k, x, o, hk, rfl, hxk, rfl, HJ, HB⟩ := hrel
    obtain rfl : x = (k : Int) := hxk
    clear J0
    by_cases hlt : k < n
    · obtain ⟨b, of, rfl, e1⟩ := HR.out k hlt
      obtain ⟨o1, o2, c1⟩ := JC.out k o hlt HJ.out
      have C1 := mkHid c1
      obtain ⟨f1, f2⟩ := HF.out k hlt
      have g1 := cell_later HB.out e1
      clear c1 JC JE HR HF e1
      have hlt' : (k : Int) < (n : Int) := by omega
      have W1 := mkHid (fun w hu => WH.out (f k) w hu f1 f2)
      clear WH f1 f2
      have h3 := wh_cases A (f k)
      generalize wh A (f k) = z at *
      generalize f k = y at *
      rcases (show o = -1 ∨ o = 0 ∨ o = 1 by omega) with rfl | rfl | rfl <;> rcases h3 with rfl | rfl | rfl
      all_goals
        go_wp2_with (go_at_call 27; ((with_reducible refine (W1.out _ (HU.out.later HB.out)).mono ?_)); rintro e w4 ⟨rfl, hb4⟩)
        go_roundw
        case rel => exact ⟨k + 1, _, _, by omega, rfl, by omega, rfl, C1, mkHid (bon HB.out hb4)⟩
        case measure => simp [intOf]; omega
    · have HN := mkHid (JE.out k o (by omega) HJ.out)
      clear JC JE HR HF WH
      have hlt' : ¬ (k : Int) < (n : Int) := by omega
      go_wp2
      go_ret
      exact ⟨by rw [HN.out]; rfl, HB.out⟩
set_option maxRecDepth 100000 in
set_option maxHeartbeats 4000000 in
theorem eval_any (L : List (List Int)) (A : List Int) (v u : Value) (w : World) (hv : RR w v L) (hu : RK .i8 w u A) (hl : L.length ≤ 1000) (hA : A.length ≤ 1000) (hf : ∀ c ∈ L, Fit c ∧ c.length ≤ 1000) :
    Calls Try.prog 17 #[v, u] w (RetV (.int .i8 (evl L A)) w) := by
  have WH := mkHid (fun R v w hv hu hl hf => best_any R A v u w hv hu hl hA hf)
  obtain ⟨a, c, rfl, hc, -, hr⟩ := hv
  have HR := mkHid hr
  have HF : Hid (∀ k, k < L.length → Fit (L.getD k []) ∧ (L.getD k []).length ≤ 1000) := fun k hk => by
    have e : L.getD k [] = L[k] := by rw [List.getD_eq_getElem?_getD, List.getElem?_eq_getElem hk]; rfl
    rw [e]; exact hf _ (List.getElem_mem _)
  have HU := mkHid hu
  obtain ⟨J, J0, JE, JC⟩ : ∃ J : Int → Nat → Prop, J 1 0 ∧ Hid (∀ k o, k = L.length → J o k → evl L A = o) ∧ Hid (∀ k o, k < L.length → J o k → -1 ≤ o ∧ o ≤ 1 ∧ J (min o (best A (L.getD k []))) (k + 1)) :=
    ⟨fun o k => -1 ≤ o ∧ o ≤ 1 ∧ evl L A = (L.drop k).foldl (fun m c => min m (best A c)) o, ⟨by omega, by omega, rfl⟩, fun k o h ⟨_, _, e⟩ => by rw [e, h, List.drop_length]; rfl,
      fun k o h ⟨e1, e2, e⟩ => ⟨e1, e2, by have := (best_spec A (L.getD k [])).2.2; omega, by have := (best_spec A (L.getD k [])).2.2; omega, by rw [e, foldl_drop (d := []) h]⟩⟩
  clear hr hf hu
  generalize L.length = n at *
  obtain ⟨f, hfd⟩ : ∃ f : Nat → List Int, f = fun j => L.getD j [] := ⟨_, rfl⟩
  have ef : ∀ j, L.getD j [] = f j := fun j => by rw [hfd]
  simp only [ef] at *
  clear ef hfd
  generalize evl L A = res at *
  go_enter Try.func17, Try.ntmps17
  go_wp2
  go_loopw [5, 10] (fun q i w' => ∃ (k : Nat) (x o : Int), k ≤ n ∧ i = .int .i64 x ∧ x = k ∧ q = .int .i8 o ∧ Hid (J o k) ∧ Hid (Below w.heap.size w w')) (fun _ i _ => (n - intOf i).toNat)
  case atStart => exact ⟨0, 0, 1, Nat.zero_le _, rfl, rfl, rfl, J0, mkHid (Below.refl _ _)⟩
  case round =>
    obtain ⟨k, x, o, hk, rfl, hxk, rfl, HJ, HB⟩ := hrel
    obtain rfl : x = (k : Int) := hxk
    clear J0
    by_cases hlt : k < n
    · obtain ⟨b, of, r, rfl, e1, hrk⟩ := HR.out k hlt
      obtain ⟨o1, o2, c1⟩ := JC.out k o hlt HJ.out
      have C1 := mkHid c1
      obtain ⟨f1, f2⟩ := HF.out k hlt
      have g1 := cell_later HB.out e1
      have HK := mkHid hrk
      clear c1 JC JE HR HF e1 hrk
      have hlt' : (k : Int) < (n : Int) := by omega
      have W1 := mkHid (fun w hv hu => WH.out (f k) r w hv hu f2 f1)
      clear WH f1 f2
      have h3 := (best_spec A (f k)).2.2
      generalize best A (f k) = z at *
      generalize f k = y at *
      rcases (show o = -1 ∨ o = 0 ∨ o = 1 by omega) with rfl | rfl | rfl <;> rcases (show z = -1 ∨ z = 0 ∨ z = 1 by omega) with rfl | rfl | rfl
      all_goals
        clear h3
        go_wp2_with (go_at_call 24; ((with_reducible refine (W1.out _ (HK.out.later HB.out) (HU.out.later HB.out)).mono ?_)); rintro e w4 ⟨rfl, hb4⟩)
        go_roundw
        case rel => exact ⟨k + 1, _, _, by omega, rfl, by omega, rfl, C1, mkHid (bon HB.out hb4)⟩
        case measure => simp [intOf]; omega
    · have HN := mkHid (JE.out k o (by omega) HJ.out)
      clear JC JE HR HF WH
      have hlt' : ¬ (k : Int) < (n : Int) := by omega
      go_wp2
      go_ret
      exact ⟨by rw [HN.out]; rfl, HB.out⟩
end Go.Proofs.Ytilhamnibdjfaaa
