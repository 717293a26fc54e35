/-
  PropOrder, walked: it returns true.
-/
import Derived.Test.YtilhamnibdjfaaaPrN
namespace Go.Proofs.Ytilhamnibdjfaaa
open Go.RowKit

/-- the last m clauses, from behind, each turned round -/
def revN (M : List (List Int)) (m : Nat) : List (List Int) := (M.reverse.take m).map List.reverse
def revL (M : List (List Int)) : List (List Int) := M.reverse.map List.reverse
theorem getD_lt {α : Type} {M : List α} {d : α} {i : Nat} (h : i < M.length) : M.getD i d = M[i] := by rw [List.getD_eq_getElem?_getD, List.getElem?_eq_getElem h]; rfl
theorem rev_take {α : Type} {M : List α} {d : α} {m : Nat} (h : m < M.length) : M.reverse.take (m + 1) = M.reverse.take m ++ [M.getD (M.length - 1 - m) d] := by
  have h' : m < M.reverse.length := by simpa using h
  rw [List.take_succ_eq_append_getElem h', List.getElem_reverse, getD_lt (by omega)]
theorem revN_succ {M : List (List Int)} {m : Nat} (h : m < M.length) : revN M (m + 1) = revN M m ++ [(M.getD (M.length - 1 - m) []).reverse] := by
  unfold revN
  rw [rev_take (d := []) h, List.map_append]; rfl
theorem revN_end (M : List (List Int)) : revN M M.length = revL M := by
  unfold revN revL
  rw [List.take_of_length_le (by simp)]
theorem revL_sim (M : List (List Int)) : Sim M (revL M) := by
  unfold revL
  refine ⟨fun c hc => ⟨c.reverse, List.mem_map.2 ⟨c, List.mem_reverse.2 hc, rfl⟩, fun x => List.mem_reverse.symm⟩, fun d hd => ?_⟩
  obtain ⟨c, hc, rfl⟩ := List.mem_map.1 hd
  exact ⟨c, List.mem_reverse.1 hc, fun x => List.mem_reverse.symm⟩
theorem revL_small {M : List (List Int)} {B : List Int} (h : Small M B) : Small (revL M) B := by
  refine ⟨by unfold revL; simpa using h.rows, h.row, fun d hd => ?_⟩
  unfold revL at hd
  obtain ⟨c, hc, rfl⟩ := List.mem_map.1 hd
  have := h.fit c (List.mem_reverse.1 hc)
  exact ⟨fun x hx => this.1 x (List.mem_reverse.1 hx), by rw [List.length_reverse]; exact this.2⟩
set_option maxRecDepth 100000 in
set_option maxHeartbeats 8000000 in
theorem order_any (v : Value) (L : List (List Int)) (u : Value) (A : List Int) (w : World) (h : Args w v u L A) (_ : ∀ x ∈ A, -128 ≤ x ∧ x ≤ 127) : Calls Try.prog 6 #[v, u] w (RetV (.bool true) w) := by
  have FW := mkHid (fun w' (hb : Below w.heap.size w w') => few_args h hb)
  have hs := mkHid (few_small A h.fit)
  have hM := fewL_len L
  have HM := mkHid (fun k hk => (fewL_fit h.fit ((fewL L).getD k []) (by rw [getD_lt hk]; exact List.getElem_mem hk)).2)
  clear h
  generalize fewL L = M at *
  generalize A.take 50 = B at *
  go_enter Try.func6, Try.ntmps6
  go_wp2_with (first
    | (go_at_call 12; ((with_reducible refine (shown_any _).mono ?_)); rintro e w1 ⟨rfl, hb1⟩; have HB1 := mkHid hb1; clear hb1)
    | (revert HB1; intro HB1; (go_at_call 13; ((with_reducible refine (FW.out _ HB1.out).mono ?_)); rintro e w2 ⟨v2, us2, g, N, c2, rfl, hN2, hn2, hl2, hg2, ha2, hb2⟩; have HN2 := mkHid hN2; clear hN2; have HL2 := mkHid hl2; have HA2 := mkHid ha2; have HB2 := mkHid (bon HB1.out hb2); have hgw := Nat.le_trans HB1.out.size hg2; clear hb2 ha2 hl2; have hrr := HL2.out.rr; obtain ⟨al, cl, rfl, hcl, -, hrl⟩ := hrr; have HR := mkHid hrl; have HLr := mkHid HL2.out.rr; clear hrl HL2)))
  have HFN : Hid (∀ m, m < M.length → revN M (m + 1) = revN M m ++ [(M.getD (M.length - 1 - m) []).reverse]) := fun m hm => revN_succ hm
  have HFE : Hid (revN M M.length = revL M) := revN_end M
  have HF0 : Hid (revN M 0 = []) := rfl
  have HFL : Hid (∀ m, (revN M m).length ≤ m) := fun m => by unfold revN; simp; omega
  have hsim := revL_sim M
  have hss := revL_small hs.out
  obtain ⟨u1, u2⟩ := hsim.unit B
  have u3 := hsim.evl B
  have HSS := mkHid hss
  have HU1 := mkHid u1
  have HU2 := mkHid u2
  have HU3 := mkHid u3
  clear hsim hss u1 u2 u3
  obtain ⟨n, hn⟩ : ∃ n, M.length = n := ⟨_, rfl⟩
  rw [hn] at hM HM HR HFN HFE hcl ⊢
  have HNM := mkHid hn
  clear hn
  generalize revN M = fn at *
  generalize revL M = RM at *
  obtain ⟨f, hfd⟩ : ∃ f : Nat → List Int, f = fun j => M.getD j [] := ⟨_, rfl⟩
  have ef : ∀ j, M.getD j [] = f j := fun j => by rw [hfd]
  simp only [ef] at HR HM HFN
  clear ef hfd
  go_loopw [6, 7] (fun q i w' => ∃ (m : Nat) (x : Int) (us : List Value), m ≤ n ∧ i = .int .i64 x ∧ x = (n : Int) - 1 - m ∧ Hid (CR w' w2.heap.size q (fn m) us) ∧ Hid (Below w2.heap.size w2 w')) (fun _ i _ => (intOf i + 1).toNat)
  case atStart => exact ⟨0, _, [], Nat.zero_le _, rfl, by omega, mkHid (by rw [HF0.out]; exact CR.nil _ _), mkHid (Below.refl _ _)⟩
  case round =>
    obtain ⟨m, x, us, hm, rfl, hxm, HC, HB⟩ := hrel
    by_cases hlt : m < n
    · obtain ⟨p, hp⟩ : ∃ p, n - 1 - m = p := ⟨_, rfl⟩
      have hpn : p < n := by omega
      obtain rfl : x = (p : Int) := by omega
      have hfs := HFN.out m hlt
      have hfl := HFL.out m
      rw [hp] at hfs
      have HFS := mkHid hfs
      have HXM := mkHid hxm
      clear hxm hp
      obtain ⟨b, of, r, rfl, e1, hrk⟩ := HR.out p hpn
      have h20 := HM.out p hpn
      have E1 := mkHid e1
      have g1 := cell_later HB.out e1
      have hpn' : (p : Int) < (n : Int) := by omega
      have hp0 : (0 : Int) ≤ (p : Int) := by omega
      clear hfs e1 HM HR HFN HFE HF0 HFL HSS HU1 HU2 HU3 HLr
      generalize f p = R at *
      obtain ⟨ar, cr, rfl, hcr, -, hrr⟩ := hrk
      have HRR := mkHid hrr
      have HST : Hid (∀ j, j < R.length → R.reverse.take (j + 1) = R.reverse.take j ++ [R.getD (R.length - 1 - j) 0]) := fun j hj => rev_take hj
      have HSE : Hid (R.reverse.take R.length = R.reverse) := List.take_of_length_le (by simp)
      have HRL : Hid (R.reverse.length = R.length) := List.length_reverse
      clear hrr
      obtain ⟨l, hl⟩ : ∃ l, R.length = l := ⟨_, rfl⟩
      rw [hl] at h20 g1 E1 HST HSE HRL hcr HRR
      clear hl
      generalize R.reverse = RR' at *
      obtain ⟨fr, hfr⟩ : ∃ f : Nat → Int, f = fun j => R.getD j 0 := ⟨_, rfl⟩
      have er : ∀ j, R.getD j 0 = fr j := fun j => by rw [hfr]
      simp only [er] at HRR HST
      clear er hfr
      go_wp2
      obtain ⟨W5, hW5⟩ : ∃ W5, W5 = wr := ⟨_, rfl⟩
      subst hW5
      go_loopw [8, 9] (fun q i w' => ∃ (j : Nat) (y : Int), j ≤ l ∧ i = .int .i64 y ∧ y = (l : Int) - 1 - j ∧ Hid (w'.ownsRow W5.heap.size 3 1 q j (nums .i64 (RR'.take j))) ∧ Hid (Below W5.heap.size W5 w')) (fun _ i _ => (intOf i + 1).toNat)
      case atStart => exact ⟨0, _, Nat.zero_le _, rfl, by omega, mkHid ⟨rfl, .inl ⟨rfl, rfl⟩⟩, mkHid (Below.refl _ _)⟩
      case round =>
        obtain ⟨j, y, hj, rfl, hyj, HO, HD⟩ := hrel
        have HBD := mkHid (bon HB.out HD.out)
        have g2 := cell_later HBD.out E1.out
        by_cases hlj : j < l
        · obtain ⟨z, hz⟩ : ∃ z, l - 1 - j = z := ⟨_, rfl⟩
          obtain rfl : y = (z : Int) := by omega
          have hzl : z < l := by omega
          have hst := HST.out j hlj
          rw [hz] at hst
          have HS2 := mkHid hst
          have HYJ := mkHid hyj
          clear hyj hz
          obtain ⟨b3, o3, rfl, e3⟩ := HRR.out z hzl
          have g3 := cell_later HBD.out e3
          have hzl' : (z : Int) < (l : Int) := by omega
          have hz0 : (0 : Int) ≤ (z : Int) := by omega
          clear hst e3 HST HRR HSE
          generalize fr z = k at *
          obtain ⟨v8, w8, hrun, ho8, hb8⟩ := run_num1 k HO.out (by omega) HD.out.size
          rw [← HS2.out] at ho8
          have HO8 := mkHid ho8
          have HD8 := mkHid (Below.trans HD.out hb8)
          clear ho8 hb8
          go_wp2_with (at_builtin
                       refine wpList_run rfl (.tmp 38) (.tmp 46) rfl rfl (by rfl) (by rfl) hrun ?_)
          go_roundw
          case rel => exact ⟨j + 1, _, by omega, rfl, by have := HYJ.out; omega, HO8, HD8⟩
          case measure => simp [intOf]
        · obtain rfl : j = l := by omega
          obtain rfl : y = -1 := by omega
          obtain ⟨a8, c8, rfl, -⟩ := own_val HO.out
          have hc := HC.out.later HD.out
          have ho := HO.out
          rw [HSE.out] at ho
          have ho2 : wr.ownsRow W5.heap.size 3 1 (.slice a8 j c8) RR'.length (nums .i64 RR') := by rw [HRL.out]; exact ho
          obtain ⟨v9, w9, hrun, hc9, hb9⟩ := run_row1 hc ho2 (by omega) HBD.out.size
          have HC9 := mkHid hc9
          have HD9 := mkHid (Below.trans HBD.out hb9)
          clear hc ho ho2 hc9 hb9 HST HRR HSE hyj
          go_wp2_with (at_builtin
                       refine wpList_run rfl (.tmp 48) (.tmp 50) rfl rfl (by rfl) (by rfl) hrun ?_)
          go_roundw
          case rel => exact ⟨m + 1, _, us ++ [.slice a8 j c8], by omega, rfl, by have := HXM.out; omega, mkHid (by rw [HFS.out]; exact HC9.out), HD9⟩
          case measure => simp [intOf]
    · obtain rfl : m = n := by omega
      obtain rfl : x = -1 := by omega
      have hc := HC.out
      rw [HFE.out] at hc
      have HRM := mkHid hc.rr
      have HWW := mkHid (bon HB2.out HB.out)
      clear hc HFN HFE HF0 HFL HM HR HC
      obtain ⟨X, cf, hx⟩ : ∃ X cf, unit M B = (X, cf) := ⟨_, _, rfl⟩
      obtain ⟨Y, cf2, hy⟩ : ∃ X cf, unit RM B = (X, cf) := ⟨_, _, rfl⟩
      have h1 := HU1.out
      have h2 := HU2.out
      rw [hx, hy] at h1 h2
      obtain rfl : cf = cf2 := h1
      have HXY : Hid (cf = false → X = Y) := h2
      have hlX : X.length = B.length := by have := unit_len M B; rw [hx] at this; exact this
      obtain ⟨ev, hev⟩ : ∃ r, evl M B = r := ⟨_, rfl⟩
      have hev2 : evl RM B = ev := by rw [← HU3.out]; exact hev
      have hX1 : X.length ≤ 1000 := by rw [hlX]; exact hs.out.row
      have U1 := mkHid (fun w' v' u' hv' hu' => unit_is (w := w') (v := v') (u := u') hs.out hx hv' hu')
      have U2 := mkHid (fun w' v' u' hv' hu' => unit_is (w := w') (v := v') (u := u') HSS.out hy hv' hu')
      have E1 := mkHid (fun w' v' u' hv' hu' => eval_is (w := w') (v := v') (u := u') hs.out hev hv' hu')
      have E2 := mkHid (fun w' v' u' hv' hu' => eval_is (w := w') (v := v') (u := u') HSS.out hev2 hv' hu')
      have S1 := mkHid (fun w' v' u' hv' hu' => same_self X v' u' w' hv' hu' hX1)
      have q2 : (ev == ev) = true := by simp
      clear h2 hx hy hev hev2 hX1 hlX HU1 HU2 HU3 hs HSS
      rw [HNM.out] at HLr
      cases cf
      · obtain rfl := HXY.out rfl
        go_wp2_with (first
          | (revert HB6; intro HB6; (go_at_call 17; ((with_reducible refine (E2.out _ _ _ (HRM.out.later (bon (bon (bon HD3.out HD4.out) HD5.out) HD6.out)) (HA2.out.later (bon HB.out (bon (bon (bon HD3.out HD4.out) HD5.out) HD6.out))).rk).mono ?_)); rintro e w7 ⟨rfl, hb7⟩; have HB7 := mkHid (bon HB6.out hb7); clear hb7))
          | (revert HB5; intro HB5; (go_at_call 17; ((with_reducible refine (E1.out _ _ _ (HLr.out.later (bon HB.out (bon (bon HD3.out HD4.out) HD5.out))) (HA2.out.later (bon HB.out (bon (bon HD3.out HD4.out) HD5.out))).rk).mono ?_)); rintro e w6 ⟨rfl, hb6⟩; have HB6 := mkHid (bon HB5.out hb6); have HD6 := mkHid hb6; clear hb6))
          | (revert HB4; intro HB4; (go_at_call 16; ((with_reducible refine (S1.out _ _ _ (HX3.out.later HD4.out).rk HX4.out.rk).mono ?_)); rintro e w5 ⟨rfl, hb5⟩; have HB5 := mkHid (bon HB4.out hb5); have HD5 := mkHid hb5; clear hb5))
          | (revert HB3; intro HB3; (go_at_call 14; ((with_reducible refine (U2.out _ _ _ (HRM.out.later HD3.out) (HA2.out.later (bon HB.out HD3.out)).rk).mono ?_)); rintro e w4 ⟨g4, N4, rfl, hN4, hg4, ha4, hb4⟩; have HN4 := mkHid hN4; clear hN4; have HX4 := mkHid ha4; have HB4 := mkHid (bon HB3.out hb4); have HD4 := mkHid hb4; clear hb4 ha4))
          | (go_at_call 14; ((with_reducible refine (U1.out _ _ _ (HLr.out.later HB.out) (HA2.out.later HB.out).rk).mono ?_)); rintro e w3 ⟨g3, N3, rfl, hN3, hg3, ha3, hb3⟩; have HN3 := mkHid hN3; clear hN3; have HX3 := mkHid ha3; have HB3 := mkHid (bon HWW.out hb3); have HD3 := mkHid hb3; clear hb3 ha3))
        go_ret
        exact ⟨rfl, HB7.out⟩
      · go_wp2_with (first
          | (revert HB5; intro HB5; (go_at_call 17; ((with_reducible refine (E2.out _ _ _ (HRM.out.later (bon (bon HD3.out HD4.out) HD5.out)) (HA2.out.later (bon HB.out (bon (bon HD3.out HD4.out) HD5.out))).rk).mono ?_)); rintro e w7 ⟨rfl, hb7⟩; have HB7 := mkHid (bon HB5.out hb7); clear hb7))
          | (revert HB4; intro HB4; (go_at_call 17; ((with_reducible refine (E1.out _ _ _ (HLr.out.later (bon HB.out (bon HD3.out HD4.out))) (HA2.out.later (bon HB.out (bon HD3.out HD4.out))).rk).mono ?_)); rintro e w6 ⟨rfl, hb6⟩; have HB5 := mkHid (bon HB4.out hb6); have HD5 := mkHid hb6; clear hb6))
          | (revert HB3; intro HB3; (go_at_call 14; ((with_reducible refine (U2.out _ _ _ (HRM.out.later HD3.out) (HA2.out.later (bon HB.out HD3.out)).rk).mono ?_)); rintro e w4 ⟨g4, N4, rfl, hN4, hg4, ha4, hb4⟩; have HN4 := mkHid hN4; clear hN4; have HX4 := mkHid ha4; have HB4 := mkHid (bon HB3.out hb4); have HD4 := mkHid hb4; clear hb4 ha4))
          | (go_at_call 14; ((with_reducible refine (U1.out _ _ _ (HLr.out.later HB.out) (HA2.out.later HB.out).rk).mono ?_)); rintro e w3 ⟨g3, N3, rfl, hN3, hg3, ha3, hb3⟩; have HN3 := mkHid hN3; clear hN3; have HX3 := mkHid ha3; have HB3 := mkHid (bon HWW.out hb3); have HD3 := mkHid hb3; clear hb3 ha3))
        go_ret
        exact ⟨rfl, HB7.out⟩
end Go.Proofs.Ytilhamnibdjfaaa
