/-
  PropLess, walked: it returns true.
-/
import Derived.Test.YtilhamnibdjfaaaPrN
import Derived.Test.YtilhamnibdjfaaaPrIn
namespace Go.Proofs.Ytilhamnibdjfaaa
open Go.RowKit

theorem getD_lt {α : Type} {M : List α} {d : α} {i : Nat} (h : i < M.length) : M.getD i d = M[i] := by rw [List.getD_eq_getElem?_getD, List.getElem?_eq_getElem h]; rfl
/-- the clauses that are not left out -/
def lessN (M : List (List Int)) (bs : List Bool) (k : Nat) : List (List Int) := ((List.range k).filter (fun i => !(bs.getD i false))).map (fun i => M.getD i [])
theorem lessN_succ (M : List (List Int)) (bs : List Bool) (k : Nat) : (bs.getD k false = false → lessN M bs (k + 1) = lessN M bs k ++ [M.getD k []]) ∧ (bs.getD k false = true → lessN M bs (k + 1) = lessN M bs k) := by
  unfold lessN
  rw [List.range_succ, List.filter_append, List.map_append]
  refine ⟨fun h => ?_, fun h => ?_⟩
  · have : List.filter (fun i => !(bs.getD i false)) [k] = [k] := by rw [List.filter_cons, h]; rfl
    rw [this]; rfl
  · have : List.filter (fun i => !(bs.getD i false)) [k] = [] := by rw [List.filter_cons, h]; rfl
    rw [this]; simp
theorem lessN_len (M : List (List Int)) (bs : List Bool) (k : Nat) : (lessN M bs k).length ≤ k := by
  unfold lessN
  rw [List.length_map]
  exact Nat.le_trans (List.length_filter_le _ _) (by simp)
theorem lessN_sub {M : List (List Int)} {bs : List Bool} {k : Nat} (hk : k ≤ M.length) : ∀ c ∈ lessN M bs k, c ∈ M := by
  intro c hc
  unfold lessN at hc
  obtain ⟨i, hi, rfl⟩ := List.mem_map.1 hc
  have h1 : i < k := List.mem_range.1 (List.mem_filter.1 hi).1
  rw [getD_lt (by omega)]
  exact List.getElem_mem _
theorem less_small {M N : List (List Int)} {B : List Int} (h : Small M B) (hs : ∀ c ∈ N, c ∈ M) (hl : N.length ≤ 1000) : Small N B := ⟨hl, h.row, fun c hc => h.fit c (hs c hc)⟩
theorem less_facts {M N : List (List Int)} (B : List Int) (hs : ∀ c ∈ N, c ∈ M) : ((unit M B).2 = false → (unit N B).2 = false ∧ ovr (unit N B).1 (unit M B).1) ∧ evl M B ≤ evl N B := by
  refine ⟨fun h => unit_more B (fun C hC c hc => hC c (hs c hc)) h, ?_⟩
  obtain ⟨a1, a2, a3, a4⟩ := evl_spec M B
  obtain ⟨b1, b2, b3, b4⟩ := evl_spec N B
  by_cases h1 : evl M B = 1
  · rw [h1, b1.2 (fun c hc => a1.1 h1 c (hs c hc))]; omega
  · by_cases h2 : evl N B = -1
    · obtain ⟨c, hc, e⟩ := b2.1 h2
      rw [a2.2 ⟨c, hs c hc, e⟩]; omega
    · omega
set_option maxRecDepth 100000 in
set_option maxHeartbeats 8000000 in
theorem less_any (v : Value) (L : List (List Int)) (u : Value) (A : List Int) (t : Value) (bs : List Bool) (w : World) (h : Args w v u L A) (_ : ∀ x ∈ A, -128 ≤ x ∧ x ≤ 127) (hbs : RBo w t bs) : Calls Try.prog 9 #[v, u, t] w (RetV (.bool true) w) := by
  have FW := mkHid (fun w' (hb : Below w.heap.size w w') => few_args h hb)
  have hs := mkHid (few_small A h.fit)
  have hM := fewL_len L
  clear h
  generalize fewL L = M at *
  generalize A.take 50 = B at *
  obtain ⟨at', ct, rfl, hlt, hrt⟩ := hbs
  have HT := mkHid hrt
  have hmx : maxLen = 9223372036854775807 := by decide
  rw [hmx] at hlt
  clear hrt hmx
  have HFN := mkHid (lessN_succ M bs)
  have HFL := mkHid (lessN_len M bs)
  have HSS := mkHid (less_small hs.out (lessN_sub (bs := bs) (Nat.le_refl _)) (Nat.le_trans (lessN_len M bs M.length) (by omega)))
  have HLF := mkHid (less_facts B (lessN_sub (M := M) (bs := bs) (Nat.le_refl _)))
  have HF0 : Hid (lessN M bs 0 = []) := rfl
  go_enter Try.func9, Try.ntmps9
  go_wp2_with (first
    | (go_at_call 12; ((with_reducible refine (shown_any _).mono ?_)); rintro e w1 ⟨rfl, hb1⟩; have HB1 := mkHid hb1; clear hb1)
    | (revert HB1; intro HB1; (go_at_call 13; ((with_reducible refine (FW.out _ HB1.out).mono ?_)); rintro e w2 ⟨v2, us2, g, N, c2, rfl, hN2, hn2, hl2, hg2, ha2, hb2⟩; have HN2 := mkHid hN2; clear hN2; have HL2 := mkHid hl2; have HA2 := mkHid ha2; have HB2 := mkHid (bon HB1.out hb2); have hgw := Nat.le_trans HB1.out.size hg2; clear hb2 ha2 hl2; have HLr := mkHid HL2.out.rr; obtain ⟨al, cl, rfl, hcl, hrl⟩ := HL2.out.rd; have HR := mkHid hrl; clear hrl HL2)))
  obtain ⟨n, hn⟩ : ∃ n, M.length = n := ⟨_, rfl⟩
  rw [hn] at hM HR HSS HLF hcl HLr ⊢
  clear hn
  obtain ⟨m0, hm0⟩ : ∃ m, bs.length = m := ⟨_, rfl⟩
  rw [hm0] at hlt HT ⊢
  have HM0 := mkHid hm0
  clear hm0
  generalize lessN M bs = fn at *
  obtain ⟨f, hfd⟩ : ∃ f : Nat → List Int, f = fun j => M.getD j [] := ⟨_, rfl⟩
  have ef : ∀ j, M.getD j [] = f j := fun j => by rw [hfd]
  simp only [ef] at HR HFN
  clear ef hfd
  have HOUT : Hid (∀ j, m0 ≤ j → bs.getD j false = false) := fun j hj => by
    rw [List.getD_eq_getElem?_getD, List.getElem?_eq_none (by rw [HM0.out]; exact hj)]; exact mkHid rfl
  obtain ⟨ft, hft⟩ : ∃ f : Nat → Bool, f = fun j => bs.getD j false := ⟨_, rfl⟩
  have et : ∀ j, bs.getD j false = ft j := fun j => by rw [hft]
  simp only [et] at HT HFN HOUT
  clear et hft
  go_loopw [8, 9] (fun q i w' => ∃ (m : Nat) (x : Int) (us : List Value), m ≤ n ∧ i = .int .i64 x ∧ x = m ∧ Hid (CR w' w2.heap.size q (fn m) us) ∧ Hid (Below w2.heap.size w2 w')) (fun _ i _ => (n - intOf i).toNat)
  case atStart => exact ⟨0, 0, [], Nat.zero_le _, rfl, rfl, mkHid (by rw [HF0.out]; exact CR.nil _ _), mkHid (Below.refl _ _)⟩
  case round =>
    obtain ⟨m, x, us, hm, rfl, hxm, HC, HB⟩ := hrel
    obtain rfl : x = (m : Int) := hxm
    by_cases hlm : m < n
    · obtain ⟨hfs1, hfs2⟩ := HFN.out m
      have hfl := HFL.out m
      have HFS1 := mkHid hfs1
      have HFS2 := mkHid hfs2
      obtain ⟨b, r, b', rfl, e1, ho⟩ := HR.out m hlm
      have g1 := cell_later HB.out e1
      have HO := mkHid (own_keep ho HB.out)
      obtain ⟨a8, c8, rfl, -⟩ := own_val ho
      have hpn' : (m : Int) < (n : Int) := by omega
      clear hfs1 hfs2 e1 ho HR HFN HF0 HFL HSS HLF HLr
      generalize f m = R at *
      obtain ⟨v9, w9, hrun, hc9, hb9⟩ := run_row1 HC.out HO.out (by omega) HB.out.size
      have HC9 := mkHid hc9
      have HD9 := mkHid (Below.trans HB.out hb9)
      clear hc9 hb9
      obtain ⟨l, hl⟩ : ∃ l, R.length = l := ⟨_, rfl⟩
      rw [hl] at g1 HO hrun HC9
      clear hl HO
      by_cases hmm : m < m0
      · obtain ⟨bt, ot, rfl, et⟩ := HT.out m hmm
        have gt := cell_later (bon HB2.out HB.out) et
        have hmm' : ¬ (m0 : Int) ≤ (m : Int) := by omega
        clear HT HOUT et
        generalize ft m = tb at *
        cases tb
        · go_wp2_with (at_builtin
                       refine wpList_run rfl (.tmp 39) (.tmp 44) rfl rfl (by rfl) (by rfl) hrun ?_)
          go_roundw
          case rel => exact ⟨m + 1, _, us ++ [.slice a8 l c8], by omega, rfl, by omega, mkHid (by rw [HFS1.out rfl]; exact HC9.out), HD9⟩
          case measure => simp [intOf]; omega
        · go_wp2
          go_roundw
          case rel => exact ⟨m + 1, _, us, by omega, rfl, by omega, mkHid (by rw [HFS2.out rfl]; exact HC.out), HB⟩
          case measure => simp [intOf]; omega
      · have hmm' : (m0 : Int) ≤ (m : Int) := by omega
        have ht := HOUT.out m (by omega)
        have HF1 := mkHid (HFS1.out ht)
        clear HT HOUT HFS1 HFS2 ht
        go_wp2_with (at_builtin
                     refine wpList_run rfl (.tmp 39) (.tmp 44) rfl rfl (by rfl) (by rfl) hrun ?_)
        go_roundw
        case rel => exact ⟨m + 1, _, us ++ [.slice a8 l c8], by omega, rfl, by omega, mkHid (by rw [HF1.out]; exact HC9.out), HD9⟩
        case measure => simp [intOf]; omega
    · obtain rfl : m = n := by omega
      have HRM := mkHid HC.out.rr
      have HWW := mkHid (bon HB2.out HB.out)
      clear HFN HF0 HFL HR HC HT HOUT
      obtain ⟨X, cf, hx⟩ : ∃ X cf, unit M B = (X, cf) := ⟨_, _, rfl⟩
      obtain ⟨Y, cf2, hy⟩ : ∃ X cf, unit (fn m) B = (X, cf) := ⟨_, _, rfl⟩
      obtain ⟨ev, hev⟩ : ∃ r, evl M B = r := ⟨_, rfl⟩
      obtain ⟨ev2, hev2⟩ : ∃ r, evl (fn m) B = r := ⟨_, rfl⟩
      obtain ⟨f1, f2⟩ := HLF.out
      rw [hx, hy] at f1
      rw [hev, hev2] at f2
      have U1 := mkHid (fun w' v' u' hv' hu' => unit_is (w := w') (v := v') (u := u') hs.out hx hv' hu')
      have U2 := mkHid (fun w' v' u' hv' hu' => unit_is (w := w') (v := v') (u := u') HSS.out hy hv' hu')
      have E1 := mkHid (fun w' v' u' hv' hu' => eval_is (w := w') (v := v') (u := u') hs.out hev hv' hu')
      have E2 := mkHid (fun w' v' u' hv' hu' => eval_is (w := w') (v := v') (u := u') HSS.out hev2 hv' hu')
      have q2 : ¬ ev2 < ev := by omega
      have F1 : Hid (cf = false → cf2 = false ∧ ovr Y X) := f1
      clear hx hy hev hev2 HLF hs HSS f1 f2
      cases cf
      · obtain ⟨rfl, hov⟩ := F1.out rfl
        have HOV : Hid (∀ i, Y.getD i 0 ≠ 0 → X.getD i 0 = Y.getD i 0) := fun i => (hov.2 i).1
        clear F1 hov
        go_wp2_with (first
          | (revert HB6; intro HB6; (go_at_call 17; ((with_reducible refine (E1.out _ _ _ (HLr.out.later (bon HB.out (bon (bon HD3.out HD4.out) HD6.out))) (HA2.out.later (bon HB.out (bon (bon HD3.out HD4.out) HD6.out))).rk).mono ?_)); rintro e w7 ⟨rfl, hb7⟩; have HB7 := mkHid (bon HB6.out hb7); have HX37 := mkHid (HX3.out.later (bon (bon HD4.out HD6.out) hb7)); have HX47 := mkHid (HX4.out.later (bon HD6.out hb7)); clear hb7))
          | (revert HB4; intro HB4; (go_at_call 17; ((with_reducible refine (E2.out _ _ _ (HRM.out.later (bon HD3.out HD4.out)) (HA2.out.later (bon HB.out (bon HD3.out HD4.out))).rk).mono ?_)); rintro e w6 ⟨rfl, hb6⟩; have HB6 := mkHid (bon HB4.out hb6); have HD6 := mkHid hb6; clear hb6))
          | (revert HB3; intro HB3; (go_at_call 14; ((with_reducible refine (U2.out _ _ _ (HRM.out.later HD3.out) (HA2.out.later (bon HB.out HD3.out)).rk).mono ?_)); rintro e w4 ⟨g4, N4, rfl, hN4, hg4, ha4, hb4⟩; obtain rfl : N = N4 := HN2.out.trans hN4.symm; clear hN4; have HX4 := mkHid ha4; have HB4 := mkHid (bon HB3.out hb4); have HD4 := mkHid hb4; clear hb4 ha4))
          | (go_at_call 14; ((with_reducible refine (U1.out _ _ _ (HLr.out.later HB.out) (HA2.out.later HB.out).rk).mono ?_)); rintro e w3 ⟨g3, N3, rfl, hN3, hg3, ha3, hb3⟩; obtain rfl : N = N3 := HN2.out.trans hN3.symm; clear hN3; have HX3 := mkHid ha3; have HB3 := mkHid (bon HWW.out hb3); have HD3 := mkHid hb3; clear hb3 ha3))
        go_loopw [14] (fun i w' => ∃ (k : Nat) (x : Int), k ≤ N ∧ i = .int .i64 x ∧ x = k ∧ Hid (Below w7.heap.size w7 w')) (fun i _ => (N - intOf i).toNat)
        case atStart => exact ⟨0, 0, Nat.zero_le _, rfl, rfl, mkHid (Below.refl _ _)⟩
        case round =>
          obtain ⟨k, x, hk, rfl, hxk, HW⟩ := hrel
          obtain rfl : x = (k : Int) := hxk
          by_cases hlt : k < N
          · have cx := (HX37.out.later HW.out).cell k hlt
            have cy := (HX47.out.later HW.out).cell k hlt
            have hlt' : (k : Int) < (N : Int) := by omega
            have hov := HOV.out k
            by_cases h0 : Y.getD k 0 = 0
            · rw [h0] at cy
              clear hov h0
              generalize X.getD k 0 = z at *
              go_wp2_with fail
              go_quiet (fail)
              go_wp2
              go_roundw
              case rel => exact ⟨k + 1, _, by omega, rfl, by omega, mkHid (below_drewN HW.out nq)⟩
              case measure => simp [intOf]; omega
            · have h1 := hov h0
              rw [h1] at cx
              clear hov h1
              generalize Y.getD k 0 = z at *
              have hz1 : (z != 0) = true := by rw [bne_iff_ne]; exact h0
              have hz2 : (z != z) = false := by simp
              go_wp2_with fail
              go_quiet (fail)
              go_wp2
              go_roundw
              case rel => exact ⟨k + 1, _, by omega, rfl, by omega, mkHid (below_drewN HW.out nq)⟩
              case measure => simp [intOf]; omega
          · have hlt' : ¬ (k : Int) < (N : Int) := by omega
            go_wp2
            go_ret
            exact ⟨rfl, bon HB7.out HW.out⟩
      · clear F1
        cases cf2
        all_goals
          go_wp2_with (first
            | (revert HB6; intro HB6; (go_at_call 17; ((with_reducible refine (E1.out _ _ _ (HLr.out.later (bon HB.out (bon (bon HD3.out HD4.out) HD6.out))) (HA2.out.later (bon HB.out (bon (bon HD3.out HD4.out) HD6.out))).rk).mono ?_)); rintro e w7 ⟨rfl, hb7⟩; have HB7 := mkHid (bon HB6.out hb7); have HX37 := mkHid (HX3.out.later (bon (bon HD4.out HD6.out) hb7)); have HX47 := mkHid (HX4.out.later (bon HD6.out hb7)); clear hb7))
            | (revert HB4; intro HB4; (go_at_call 17; ((with_reducible refine (E2.out _ _ _ (HRM.out.later (bon HD3.out HD4.out)) (HA2.out.later (bon HB.out (bon HD3.out HD4.out))).rk).mono ?_)); rintro e w6 ⟨rfl, hb6⟩; have HB6 := mkHid (bon HB4.out hb6); have HD6 := mkHid hb6; clear hb6))
            | (revert HB3; intro HB3; (go_at_call 14; ((with_reducible refine (U2.out _ _ _ (HRM.out.later HD3.out) (HA2.out.later (bon HB.out HD3.out)).rk).mono ?_)); rintro e w4 ⟨g4, N4, rfl, hN4, hg4, ha4, hb4⟩; obtain rfl : N = N4 := HN2.out.trans hN4.symm; clear hN4; have HX4 := mkHid ha4; have HB4 := mkHid (bon HB3.out hb4); have HD4 := mkHid hb4; clear hb4 ha4))
            | (go_at_call 14; ((with_reducible refine (U1.out _ _ _ (HLr.out.later HB.out) (HA2.out.later HB.out).rk).mono ?_)); rintro e w3 ⟨g3, N3, rfl, hN3, hg3, ha3, hb3⟩; obtain rfl : N = N3 := HN2.out.trans hN3.symm; clear hN3; have HX3 := mkHid ha3; have HB3 := mkHid (bon HWW.out hb3); have HD3 := mkHid hb3; clear hb3 ha3))
          go_loopw [14] (fun i w' => ∃ (x : Int), i = .int .i64 x ∧ x = 0 ∧ Hid (Below w7.heap.size w7 w')) (fun _ _ => 0)
          case atStart => exact ⟨0, rfl, rfl, mkHid (Below.refl _ _)⟩
          case round =>
            obtain ⟨x, rfl, rfl, HW⟩ := hrel
            by_cases hn0 : 0 < N
            · have hlt' : (0 : Int) < (N : Int) := by omega
              go_wp2
              go_ret
              exact ⟨rfl, bon HB7.out HW.out⟩
            · have hlt' : ¬ (0 : Int) < (N : Int) := by omega
              go_wp2
              go_ret
              exact ⟨rfl, bon HB7.out HW.out⟩
end Go.Proofs.Ytilhamnibdjfaaa
