/-
  PropTells, walked: it returns true.
-/
import Derived.Test.YtilhamnibdjfaaaPrM
namespace Go.Proofs.Ytilhamnibdjfaaa
open Go.RowKit

set_option maxRecDepth 100000 in
set_option maxHeartbeats 8000000 in
theorem tells_any (v : Value) (L : List (List Int)) (u : Value) (A : List Int) (w : World) (h : Args w v u L A) (_ : ∀ x ∈ A, -128 ≤ x ∧ x ≤ 127) : Calls Try.prog 3 #[v, u] w (RetV (.bool true) w) := by
  have FW := mkHid (fun w' (hb : Below w.heap.size w w') => few_args h hb)
  have hs := few_small A h.fit
  have hs1 := fewL_len L
  have hs2 := fewL_fit h.fit
  have hs3 := take_len A
  clear h
  generalize fewL L = M at *
  generalize A.take 50 = B at *
  have FA := mkHid (fun w' v' u' hv' hu' => few_again (w := w') (v := v') (u := u') (L := []) (A := B) hv' hu' (by decide) (fun c hc => by cases hc) hs3)
  have U1 := mkHid (fun w' v' u' hv' hu' => unit_at' (w := w') (v := v') (u := u') hs hv' hu')
  have U2 := mkHid (fun w' v' u' hv' hu' => runit_at (w := w') (v := v') (u := u') hs hv' hu')
  have E1 := mkHid (fun w' v' u' hv' hu' => eval_any M B v' u' w' hv' hu' hs.rows hs.row hs.fit)
  have E2 := mkHid (fun w' v' u' hv' hu' => reval_any M B v' u' w' hv' hu' hs.rows hs.row hs.fit)
  have S1 := mkHid (fun w' v' u' hv' hu' => same_self (unit M B).1 v' u' w' hv' hu' (by rw [unit_len]; exact hs.row))
  have S2 := mkHid (fun w' v' u' hv' hu' => same_self B v' u' w' hv' hu' hs.row)
  clear hs hs1 hs2 hs3
  generalize (unit M B).1 = X at *
  generalize (unit M B).2 = cf at *
  generalize evl M B = ev at *
  have q1 : (cf == cf) = true := by simp
  have q2 : (ev == ev) = true := by simp
  go_enter Try.func3, Try.ntmps3
  go_wp2_with (first
    | (go_at_call 12; ((with_reducible refine (shown_any _).mono ?_)); rintro e w1 ⟨rfl, hb1⟩; have HB1 := mkHid hb1; clear hb1)
    | (revert HB7; intro HB7; (go_at_call 16; ((with_reducible refine (S2.out _ _ _ (HA2.out.later (bon HC3.out HC7.out)).rk (HA3.out.later HC7.out).rk).mono ?_)); rintro e w8 ⟨rfl, hb8⟩; have HB8 := mkHid (bon HB7.out hb8); clear hb8))
    | (revert HB6; intro HB6; (go_at_call 18; ((with_reducible refine (E2.out _ _ _ (HL2.out.later (bon HC3.out HC6.out)).rr (HA2.out.later (bon HC3.out HC6.out)).rk).mono ?_)); rintro e w7 ⟨rfl, hb7⟩; have HB7 := mkHid (bon HB6.out hb7); have HC7 := mkHid (bon HC6.out hb7); clear hb7))
    | (revert HBs; intro HBs; (go_at_call 17; ((with_reducible refine (E1.out _ _ _ (HL2.out.later (bon HC3.out HCs.out)).rr (HA2.out.later (bon HC3.out HCs.out)).rk).mono ?_)); rintro e w6 ⟨rfl, hb6⟩; have HB6 := mkHid (bon HBs.out hb6); have HC6 := mkHid (bon HCs.out hb6); clear hb6))
    | (revert HB5; intro HB5; (go_at_call 16; ((with_reducible refine (S1.out _ _ _ (HX4.out.later HC5.out).rk HX5.out.rk).mono ?_)); rintro e ws ⟨rfl, hbs⟩; have HBs := mkHid (bon HB5.out hbs); have HCs := mkHid (bon (bon HC4.out HC5.out) hbs); clear hbs))
    | (revert HB4; intro HB4; (go_at_call 15; ((with_reducible refine (U2.out _ _ _ (HL2.out.later (bon HC3.out HC4.out)).rr (HA2.out.later (bon HC3.out HC4.out)).rk).mono ?_)); rintro e w5 ⟨g5, N5, c5, rfl, hN5, hg5, ha5, hb5⟩; have HX5 := mkHid ha5; have HN5 := mkHid hN5; clear hN5; have HB5 := mkHid (bon HB4.out hb5); have HC5 := mkHid hb5; clear hb5 ha5))
    | (revert HB3; intro HB3; (go_at_call 14; ((with_reducible refine (U1.out _ _ _ (HL2.out.later HC3.out).rr (HA2.out.later HC3.out).rk).mono ?_)); rintro e w4 ⟨g4, N4, rfl, hN4, hg4, ha4, hb4⟩; have HX4 := mkHid ha4; have HN4 := mkHid hN4; clear hN4; have HB4 := mkHid (bon HB3.out hb4); have HC4 := mkHid hb4; clear hb4 ha4))
    | (revert HB2; intro HB2; (go_at_call 13; ((with_reducible refine (FA.out _ _ _ (nil_rows _) HA2.out.rk).mono ?_)); rintro e w3 ⟨v3, us3, g3, N3, c3, rfl, hN3, hn3, hl3, hg3, ha3, hb3⟩; have HA3 := mkHid ha3; have HN3 := mkHid hN3; clear hN3; have HB3 := mkHid (bon HB2.out hb3); have HC3 := mkHid hb3; clear hb3 ha3))
    | (revert HB1; intro HB1; (go_at_call 13; ((with_reducible refine (FW.out _ HB1.out).mono ?_)); rintro e w2 ⟨v2, us2, g2, N2, c2, rfl, hN2, hn2, hl2, hg2, ha2, hb2⟩; have HL2 := mkHid hl2; have HA2 := mkHid ha2; have HN2 := mkHid hN2; clear hN2; have HB2 := mkHid (bon HB1.out hb2); clear hb2 ha2 hl2)))
  go_ret
  exact ⟨rfl, HB8.out⟩
end Go.Proofs.Ytilhamnibdjfaaa
