/-
  PropFull, walked: it returns true.
-/
import Derived.Test.YtilhamnibdjfaaaPrM
namespace Go.Proofs.Ytilhamnibdjfaaa
open Go.RowKit

theorem full_wh {B : List Int} (h : ∀ i, i < B.length → B.getD i 0 ≠ 0) (x : Int) : wh B x ≠ 0 := by
  intro e
  have h1 := wh_zero (A := B) (x := x) (by omega)
  exact h _ h1.2.2 (wh_open e)
theorem full_facts {M : List (List Int)} {B : List Int} (h : ∀ i, i < B.length → B.getD i 0 ≠ 0) : (unit M B = (B, false) ∧ evl M B = 1) ∨ (unit M B = (B, true) ∧ evl M B = -1) := by
  have hw := full_wh h
  match hf : M.findSome? (ask B) with
  | none =>
    refine .inl ⟨unit_none hf, (evl_spec M B).1.2 fun c hc => ?_⟩
    rcases closed_iff.2 hf c hc with h1 | ⟨x, hx, y, hy, -, e, -⟩
    · exact h1
    · exact absurd e (hw x)
  | some x =>
    obtain ⟨c, hc, e⟩ := List.exists_of_findSome?_eq_some hf
    obtain ⟨h1, h2, h3⟩ := ask_some e
    have hx : x = 0 := by
      rcases h1 with h1 | ⟨-, h1⟩
      · exact h1
      · exact absurd h1 (hw x)
    subst hx
    refine .inr ⟨unit_conf hf, (evl_spec M B).2.1.2 ⟨c, hc, fun y hy => ?_⟩⟩
    rcases wh_cases B y with h4 | h4 | h4
    · exact absurd h4 (h2 y hy)
    · exact absurd h4 (hw y)
    · exact h4
theorem full_step {B : List Int} {k : Nat} (h : ∀ i, i < k → B.getD i 0 ≠ 0) (h0 : B.getD k 0 ≠ 0) : ∀ i, i < k + 1 → B.getD i 0 ≠ 0 := by
  intro i hi
  by_cases e : i = k
  · subst e; exact h0
  · exact h i (by omega)
theorem full_put {B : List Int} {k : Nat} {x : Int} (hx : x ≠ 0) (hk : k < B.length) (h : ∀ i, i < k → B.getD i 0 ≠ 0) : ∀ i, i < k + 1 → (B.set k x).getD i 0 ≠ 0 := by
  intro i hi
  rw [List.getD_eq_getElem?_getD, List.getElem?_set]
  by_cases e : k = i
  · subst e; simp [hk, hx]
  · rw [if_neg e, ← List.getD_eq_getElem?_getD]; exact h i (by omega)
set_option maxRecDepth 100000 in
set_option maxHeartbeats 8000000 in
theorem full_any (v : Value) (L : List (List Int)) (u : Value) (A : List Int) (w : World) (h : Args w v u L A) (_ : ∀ x ∈ A, -128 ≤ x ∧ x ≤ 127) : Calls Try.prog 7 #[v, u] w (RetV (.bool true) w) := by
  have FW := mkHid (fun w' (hb : Below w.heap.size w w') => few_args h hb)
  have hs := mkHid (few_small A h.fit)
  clear h
  generalize fewL L = M at *
  generalize A.take 50 = B at *
  go_enter Try.func7, Try.ntmps7
  go_wp2_with (first
    | (go_at_call 12; ((with_reducible refine (shown_any _).mono ?_)); rintro e w1 ⟨rfl, hb1⟩; have HB1 := mkHid hb1; clear hb1)
    | (revert HB1; intro HB1; (go_at_call 13; ((with_reducible refine (FW.out _ HB1.out).mono ?_)); rintro e w2 ⟨v2, us2, g, N, c2, rfl, hN2, hn2, hl2, hg2, ha2, hb2⟩; have HN2 := mkHid hN2; clear hN2; have HL2 := mkHid hl2; have HA2 := mkHid ha2; have HB2 := mkHid (bon HB1.out hb2); have hgw := Nat.le_trans HB1.out.size hg2; clear hb2 ha2 hl2)))
  have HL := HL2
  have HC2 := mkHid hn2
  obtain ⟨base2, HL⟩ : ∃ b, Hid (CR w2 b v2 M us2) := ⟨_, HL⟩
  clear HL2
  go_loopw [6] (fun i w' => ∃ (k : Nat) (x : Int) (C : List Int), k ≤ N ∧ i = .int .i64 x ∧ x = k ∧ Hid (AC w' g N c2 C) ∧ Hid (∀ i, i < k → C.getD i 0 ≠ 0) ∧ Hid (Below w.heap.size w w') ∧ Hid (CR w' base2 v2 M us2)) (fun i _ => (N - intOf i).toNat)
  case atStart => exact ⟨0, 0, B, Nat.zero_le _, rfl, rfl, HA2, fun i hi => absurd hi (Nat.not_lt_zero i), HB2, HL⟩
  case round =>
    clear HA2 HB2 HL
    obtain ⟨k, x, C, hk, rfl, hxk, HA, HJ, HB, HL⟩ := hrel
    obtain rfl : x = (k : Int) := hxk
    by_cases hlt : k < N
    · have hc := HA.out.cell k hlt
      have hfz := HA.out.frozen k
      have hlt' : (k : Int) < (N : Int) := by omega
      have HKL : Hid (k < C.length) := by rw [HA.out.len]; exact hlt
      by_cases h0 : C.getD k 0 = 0
      · rw [h0] at hc
        have HJ2 := mkHid (full_put (x := -1) (by decide) HKL.out HJ.out)
        have HA2 := mkHid (HA.out.set k (-1))
        have hbs : Below w.heap.size wr (wr.setCell ⟨g, k, none⟩ (.int .i8 (-1))) := Below.setCell (Below.refl _ _) hgw _
        have HB3 := mkHid (Below.trans HB.out hbs)
        have HL3 := mkHid (HL.out.stored HA.out k (-1))
        clear hbs
        go_wp2
        go_roundw
        case rel => exact ⟨k + 1, _, C.set k (-1), by omega, rfl, by omega, HA2, HJ2, HB3, HL3⟩
        case measure => simp [intOf]; omega
      · have h9 : (C.getD k 0 == 0) = false := by simpa using h0
        have HJ2 := mkHid (full_step HJ.out h0)
        generalize C.getD k 0 = z at *
        go_wp2
        go_roundw
        case rel => exact ⟨k + 1, _, C, by omega, rfl, by omega, HA, HJ2, HB, HL⟩
        case measure => simp [intOf]; omega
    · obtain rfl : k = N := by omega
      have hfull := full_facts (M := M) (B := C) (fun i hi => HJ.out i (by rw [HA.out.len] at hi; exact hi))
      have hs2 : Small M C := hs.out.of (by rw [HA.out.len]; have := HC2.out; omega)
      have hk50 := HC2.out
      have S1 := mkHid (fun w' v' u' hv' hu' => same_self C v' u' w' hv' hu' hs2.row)
      rcases hfull with ⟨e1, e2⟩ | ⟨e1, e2⟩
      all_goals
        have U1 := mkHid (fun w' v' u' hv' hu' => unit_is (w := w') (v := v') (u := u') hs2 e1 hv' hu')
        have E1 := mkHid (fun w' v' u' hv' hu' => eval_is (w := w') (v := v') (u := u') hs2 e2 hv' hu')
        clear hs2 e1 e2 hs HJ
        go_wp2_with (first
          | (revert HB4; intro HB4; (go_at_call 16; ((with_reducible refine (S1.out _ _ _ (HX3.out.later HD4.out).rk (HA.out.later (bon HD3.out HD4.out)).rk).mono ?_)); rintro e w5 ⟨rfl, hb5⟩; have HB5 := mkHid (bon HB4.out hb5); clear hb5))
          | (revert HB3; intro HB3; (go_at_call 17; ((with_reducible refine (E1.out _ _ _ (HL.out.later HD3.out).rr (HA.out.later HD3.out).rk).mono ?_)); rintro e w4 ⟨rfl, hb4⟩; have HB4 := mkHid (bon HB3.out hb4); have HD4 := mkHid hb4; clear hb4))
          | (go_at_call 14; ((with_reducible refine (U1.out _ _ _ HL.out.rr HA.out.rk).mono ?_)); rintro e w3 ⟨g3, N3, rfl, hN3, hg3, ha3, hb3⟩; have HN3 := mkHid hN3; clear hN3; have HX3 := mkHid ha3; have HB3 := mkHid (bon HB.out hb3); have HD3 := mkHid hb3; clear hb3 ha3))
        go_ret
        exact ⟨rfl, HB5.out⟩
end Go.Proofs.Ytilhamnibdjfaaa
