/-
  PropFollows, walked: it returns true.
-/
import Derived.Test.YtilhamnibdjfaaaPrN
import Derived.Test.YtilhamnibdjfaaaPrIn
namespace Go.Proofs.Ytilhamnibdjfaaa
open Go.RowKit

theorem fset_get (A : List Int) (k i : Nat) (x : Int) (hk : k < A.length) : (A.set k x).getD i 0 = if k = i then x else A.getD i 0 := by
  rw [List.getD_eq_getElem?_getD, List.getElem?_set]
  by_cases e : k = i
  · subst e; simp [hk]
  · rw [if_neg e, if_neg e, ← List.getD_eq_getElem?_getD]
/-- the first k places say all, the others what they said -/
def FP (B : List Int) (k : Nat) (F : List Int) : Prop := F.length = B.length ∧ ∀ j, ((j = 0 ∨ k ≤ j) → F.getD j 0 = B.getD j 0) ∧ (1 ≤ j → j < k → (B.getD j 0 ≠ 0 → F.getD j 0 = B.getD j 0) ∧ (B.getD j 0 = 0 → F.getD j 0 = 1 ∨ F.getD j 0 = -1))
theorem FP.start (B : List Int) : FP B 1 B := ⟨rfl, fun j => ⟨fun _ => rfl, fun h1 h2 => by omega⟩⟩
theorem FP.at {B F : List Int} {k : Nat} (h : FP B k F) : F.getD k 0 = B.getD k 0 := (h.2 k).1 (.inr (Nat.le_refl _))
theorem FP.keep {B F : List Int} {k : Nat} (h : FP B k F) (h0 : F.getD k 0 ≠ 0) : FP B (k + 1) F := by
  have e := h.at
  refine ⟨h.1, fun j => ⟨fun hj => (h.2 j).1 (by omega), fun h1 h2 => ?_⟩⟩
  by_cases ej : j = k
  · subst ej
    exact ⟨fun _ => e, fun h9 => absurd (e.trans h9) h0⟩
  · exact (h.2 j).2 h1 (by omega)
theorem FP.put {B F : List Int} {k : Nat} {v : Int} (h : FP B k F) (h0 : F.getD k 0 = 0) (_ : 1 ≤ k) (hk : k < B.length) (hv : v = 1 ∨ v = -1) : FP B (k + 1) (F.set k v) := by
  have e := h.at
  refine ⟨by simp [h.1], fun j => ⟨fun hj => ?_, fun h1 h2 => ?_⟩⟩
  · rw [fset_get _ _ _ _ (by rw [h.1]; exact hk), if_neg (by omega)]
    exact (h.2 j).1 (by omega)
  · rw [fset_get _ _ _ _ (by rw [h.1]; exact hk)]
    by_cases ej : k = j
    · subst ej
      rw [if_pos rfl]
      exact ⟨fun h9 => absurd (e.symm.trans h0) h9, fun _ => hv⟩
    · rw [if_neg ej]; exact (h.2 j).2 h1 (by omega)
theorem FP.ovr {B F : List Int} {k : Nat} (h : FP B k F) : Go.Proofs.Ytilhamnibdjfaaa.ovr B F := by
  refine ⟨h.1.symm, fun j => ?_⟩
  by_cases hj : j = 0 ∨ k ≤ j
  · have e := (h.2 j).1 hj
    rw [e]; exact ⟨fun _ => rfl, fun h => .inl h⟩
  · have e := (h.2 j).2 (by omega) (by omega)
    exact ⟨e.1, fun h9 => .inr (e.2 h9)⟩
theorem apart_of {w : World} {g N c : Nat} {B : List Int} (h : AC w g N c B) (hN : N ≤ 50) : ∃ g2 cap w', (Builtin.append_ #[23, 23] 23 #[.slice (some ⟨w.heap.size, 0, none⟩) 0 0, .slice (some ⟨g, 0, none⟩) N c]).run Try.prog (w.alloc (.cells #[] 30)) = .ok (.slice (some ⟨g2, 0, none⟩) N cap) w' ∧ w.heap.size ≤ g2 ∧ AC w' g2 N cap B ∧ Below w.heap.size w w' := by
  obtain ⟨rfl, hc, ho⟩ := h
  obtain ⟨g2, cap, w', h1, h2, h3, h4⟩ := run_apart (m := B.length) (c2 := c) (RK.of_own ho) (Nat.le_refl _) (by omega) (fun h => absurd h (by simp))
  rw [List.take_of_length_le (Nat.le_refl _)] at h3
  exact ⟨g2, cap, w', h1, h2, h3, h4⟩
theorem fol_facts {M : List (List Int)} {B F : List Int} (h : Go.Proofs.Ytilhamnibdjfaaa.ovr B F) : ((unit M B).2 = true → evl M (unit M B).1 = -1) ∧ (evl M F = 1 → (unit M B).2 = false ∧ Go.Proofs.Ytilhamnibdjfaaa.ovr (unit M B).1 F) := by
  refine ⟨fun e => (evl_spec _ _).2.1.2 (unit_dead B e), fun e => unit_least (fun c hc => .inl ((evl_spec M F).1.1 e c hc)) B h⟩
set_option maxRecDepth 100000 in
set_option maxHeartbeats 8000000 in
theorem follows_any (v : Value) (L : List (List Int)) (u : Value) (A : List Int) (t : Value) (bs : List Bool) (w : World) (h : Args w v u L A) (_ : ∀ x ∈ A, -128 ≤ x ∧ x ≤ 127) (hbs : RBo w t bs) : Calls Try.prog 4 #[v, u, t] w (RetV (.bool true) w) := by
  have FW := mkHid (fun w' (hb : Below w.heap.size w w') => few_args h hb)
  have hs := mkHid (few_small A h.fit)
  clear h
  generalize fewL L = M at *
  generalize A.take 50 = B at *
  obtain ⟨at', ct, rfl, hlt, hrt⟩ := hbs
  have HT := mkHid hrt
  have hmx : maxLen = 9223372036854775807 := by decide
  rw [hmx] at hlt
  clear hrt hmx
  obtain ⟨m0, hm0⟩ : ∃ m, bs.length = m := ⟨_, rfl⟩
  rw [hm0] at hlt HT ⊢
  clear hm0
  obtain ⟨ft, hft⟩ : ∃ f : Nat → Bool, f = fun j => bs.getD j false := ⟨_, rfl⟩
  have et : ∀ j, bs.getD j false = ft j := fun j => by rw [hft]
  simp only [et] at HT
  clear et hft
  go_enter Try.func4, Try.ntmps4
  go_wp2_with (first
    | (go_at_call 12; ((with_reducible refine (shown_any _).mono ?_)); rintro e w1 ⟨rfl, hb1⟩; have HB1 := mkHid hb1; clear hb1)
    | (revert HB1; intro HB1; (go_at_call 13; ((with_reducible refine (FW.out _ HB1.out).mono ?_)); rintro e w2 ⟨v2, us2, g, N, c2, rfl, hN2, hn2, hl2, hg2, ha2, hb2⟩; have HN2 := mkHid hN2; clear hN2; have HA2 := mkHid ha2; have HB2 := mkHid (bon HB1.out hb2); clear hb2 ha2; have HLr := mkHid hl2.rr; clear hl2; obtain ⟨gF, cF, w3, hrun, hgF, ha3, hb3⟩ := apart_of HA2.out hn2; have HA3 := mkHid ha3; have HD3 := mkHid hb3; have HB3 := mkHid (bon HB2.out hb3); clear ha3 hb3))
    | (at_builtin
       refine wpList_run rfl (.tmp 21) (.tmp 22) rfl rfl (by rfl) (by rfl) hrun ?_))
  have HGW := mkHid (Nat.le_trans HB2.out.size hgF)
  have HGF := mkHid hgF
  clear hrun HB2 hgF
  go_loopw [9] (fun i w' => ∃ (k : Nat) (x : Int) (F : List Int), 1 ≤ k ∧ k ≤ N + 1 ∧ i = .int .i64 x ∧ x = k ∧ Hid (AC w' gF N cF F) ∧ Hid (FP B k F) ∧ Hid (Below w2.heap.size w2 w') ∧ Hid (Below w.heap.size w w')) (fun i _ => (N + 1 - intOf i).toNat)
  case atStart => exact ⟨1, 1, B, Nat.le_refl _, by omega, rfl, rfl, HA3, FP.start B, HD3, HB3⟩
  case round =>
    clear HA3 HD3 HB3
    obtain ⟨k, x, F, hk1, hk, rfl, hxk, HA, HF, HD, HB⟩ := hrel
    obtain rfl : x = (k : Int) := hxk
    by_cases hlk : k < N
    · have hc := HA.out.cell k hlk
      have hfz := HA.out.frozen k
      have hlk' : (k : Int) < (N : Int) := by omega
      have HKB : Hid (k < B.length) := by rw [← HN2.out]; exact hlk
      by_cases h0 : F.getD k 0 = 0
      · rw [h0] at hc
        have hF1 := mkHid (HF.out.put (v := -1) h0 hk1 HKB.out (.inr rfl))
        have hF2 := mkHid (HF.out.put (v := 1) h0 hk1 HKB.out (.inl rfl))
        have HA1 := mkHid (HA.out.set k (-1))
        have hA2 := HA1.out.set k 1
        rw [set_set] at hA2
        have HA2' := mkHid hA2
        have hc2 := HA1.out.cell k hlk
        have hfz2 := HA1.out.frozen k
        have hbs : Below w.heap.size wr (wr.setCell ⟨gF, k, none⟩ (.int .i8 (-1))) := Below.setCell (Below.refl _ _) HGW.out _
        have hbs2 : Below w.heap.size wr ((wr.setCell ⟨gF, k, none⟩ (.int .i8 (-1))).setCell ⟨gF, k, none⟩ (.int .i8 1)) := Below.setCell hbs HGW.out _
        have HBb := mkHid (Below.trans HB.out hbs)
        have HBc := mkHid (Below.trans HB.out hbs2)
        have hds : Below w2.heap.size wr (wr.setCell ⟨gF, k, none⟩ (.int .i8 (-1))) := Below.setCell (Below.refl _ _) HGF.out _
        have hds2 : Below w2.heap.size wr ((wr.setCell ⟨gF, k, none⟩ (.int .i8 (-1))).setCell ⟨gF, k, none⟩ (.int .i8 1)) := Below.setCell hds HGF.out _
        have HDb := mkHid (Below.trans HD.out hds)
        have HDc := mkHid (Below.trans HD.out hds2)
        clear hA2 hbs hbs2 hds hds2 h0
        by_cases hkm : k < m0
        · obtain ⟨bt, ot, rfl, et⟩ := HT.out k hkm
          have gt := cell_later HBb.out et
          have hkm' : (k : Int) < (m0 : Int) := by omega
          clear et HT
          generalize ft k = tb at *
          cases tb
          · go_wp2
            go_roundw
            case rel => exact ⟨k + 1, _, _, by omega, by omega, rfl, by omega, HA1, hF1, HDb, HBb⟩
            case measure => simp [intOf]; omega
          · go_wp2
            go_roundw
            case rel => exact ⟨k + 1, _, _, by omega, by omega, rfl, by omega, HA2', hF2, HDc, HBc⟩
            case measure => simp [intOf]; omega
        · have hkm' : ¬ (k : Int) < (m0 : Int) := by omega
          clear HT
          go_wp2
          go_roundw
          case rel => exact ⟨k + 1, _, _, by omega, by omega, rfl, by omega, HA1, hF1, HDb, HBb⟩
          case measure => simp [intOf]; omega
      · have h9 : (F.getD k 0 == 0) = false := by simpa using h0
        have hF1 := mkHid (HF.out.keep h0)
        generalize F.getD k 0 = z at *
        clear HT
        go_wp2
        go_roundw
        case rel => exact ⟨k + 1, _, F, by omega, by omega, rfl, by omega, HA, hF1, HD, HB⟩
        case measure => simp [intOf]; omega
    · have hlk' : ¬ (k : Int) < (N : Int) := by omega
      have hov := HF.out.ovr
      obtain ⟨f1, f2⟩ := fol_facts (M := M) hov
      have hxo := unit_ovr (L := M) B
      obtain ⟨X, cf, hx⟩ : ∃ X cf, unit M B = (X, cf) := ⟨_, _, rfl⟩
      obtain ⟨ev, hev⟩ : ∃ r, evl M F = r := ⟨_, rfl⟩
      rw [hx] at f1 f2 hxo
      rw [hev] at f2
      have F1 : Hid (cf = true → evl M X = -1) := f1
      have F2 : Hid (ev = 1 → cf = false ∧ ovr X F) := f2
      have HXO : Hid (∀ i, (B.getD i 0 ≠ 0 → X.getD i 0 = B.getD i 0) ∧ (B.getD i 0 = 0 → X.getD i 0 = 0 ∨ X.getD i 0 = 1 ∨ X.getD i 0 = -1)) := hxo.2
      have hXl : X.length = B.length := by have := unit_len M B; rw [hx] at this; exact this
      have HSX := mkHid (hs.out.of (B := X) (by rw [hXl]; exact hs.out.row))
      have HSF := mkHid (hs.out.of (B := F) (by rw [HF.out.1]; exact hs.out.row))
      have U1 := mkHid (fun w' v' u' hv' hu' => unit_is (w := w') (v := v') (u := u') hs.out hx hv' hu')
      have E2 := mkHid (fun w' v' u' hv' hu' => eval_is (w := w') (v := v') (u := u') HSF.out hev hv' hu')
      clear hov f1 f2 hxo hx hev hXl HT HF HSF
      cases cf
      · skip
        have HA0 := HA
        go_wp2_with (go_at_call 14; ((with_reducible refine (U1.out _ _ _ (HLr.out.later HD.out) (HA2.out.later HD.out).rk).mono ?_)); rintro e w4 ⟨g4, N4, rfl, hN4, hg4, ha4, hb4⟩; obtain rfl : N = N4 := HN2.out.trans hN4.symm; clear hN4; have HX9 := mkHid ha4; have HB9 := mkHid (bon HB.out hb4); have HD9 := mkHid (bon HD.out hb4); have HD0 := mkHid hb4; have HA9 := mkHid (HA2.out.later (bon HD.out hb4)); clear hb4 ha4)
        go_loopw [12] (fun i w' => ∃ (p : Nat) (x : Int), p ≤ N ∧ i = .int .i64 x ∧ x = p ∧ Hid (Below w4.heap.size w4 w')) (fun i _ => (N - intOf i).toNat)
        case atStart => exact ⟨0, 0, Nat.zero_le _, rfl, rfl, mkHid (Below.refl _ _)⟩
        case round =>
          obtain ⟨p, x, hp, rfl, hxp, HW⟩ := hrel
          obtain rfl : x = (p : Int) := hxp
          by_cases hlp : p < N
          · have cx := (HX9.out.later HW.out).cell p hlp
            have cb := (HA9.out.later HW.out).cell p hlp
            have hlp' : (p : Int) < (N : Int) := by omega
            obtain ⟨o1, o2⟩ := HXO.out p
            by_cases h0 : B.getD p 0 = 0
            · have ox := o2 h0
              rw [h0] at cb
              clear o1 o2 h0
              generalize X.getD p 0 = z at *
              rcases ox with rfl | rfl | rfl
              all_goals
                go_wp2_with fail
                (try dsimp only [List.append])
                go_quiet (fail)
                go_wp2
                go_roundw
                case rel => exact ⟨p + 1, _, by omega, rfl, by omega, mkHid (below_drewN HW.out nq)⟩
                case measure => simp [intOf]; omega
            · have ox := o1 h0
              rw [ox] at cx
              clear o1 o2 ox
              generalize B.getD p 0 = z at *
              have hz1 : (z != 0) = true := by rw [bne_iff_ne]; exact h0
              have hz2 : (z != z) = false := by simp
              by_cases h1 : z < -1
              · go_wp2_with fail
                have g2 : ¬ (1 : Int) < z := by omega
                (try dsimp only [List.append])
                go_quiet (fail)
                go_wp2
                go_roundw
                case rel => exact ⟨p + 1, _, by omega, rfl, by omega, mkHid (below_drewN HW.out nq)⟩
                case measure => simp [intOf]; omega
              · by_cases h2 : 1 < z
                · go_wp2_with fail
                  have g1 : ¬ z < (-1 : Int) := by omega
                  (try dsimp only [List.append])
                  go_quiet (fail)
                  go_wp2
                  go_roundw
                  case rel => exact ⟨p + 1, _, by omega, rfl, by omega, mkHid (below_drewN HW.out nq)⟩
                  case measure => simp [intOf]; omega
                · go_wp2_with fail
                  have g1 : ¬ z < (-1 : Int) := by omega
                  have g2 : ¬ (1 : Int) < z := by omega
                  (try dsimp only [List.append])
                  go_quiet (fail)
                  go_wp2
                  go_roundw
                  case rel => exact ⟨p + 1, _, by omega, rfl, by omega, mkHid (below_drewN HW.out nq)⟩
                  case measure => simp [intOf]; omega
          · have hlp' : ¬ (p : Int) < (N : Int) := by omega
            obtain ⟨wL, hwL⟩ : ∃ wL, wL = wr := ⟨_, rfl⟩
            subst hwL
            clear HXO
            by_cases he : ev = 1
            · subst he
              obtain ⟨-, hxf⟩ := F2.out rfl
              have HXF : Hid (∀ i, X.getD i 0 ≠ 0 → F.getD i 0 = X.getD i 0) := fun i => (hxf.2 i).1
              clear F1 F2 hxf
              go_wp2_with (go_at_call 17; ((with_reducible refine (E2.out _ _ _ (HLr.out.later (bon HD9.out HW.out)) (HA0.out.later (bon HD0.out HW.out)).rk).mono ?_)); rintro e w6 ⟨rfl, hb6⟩; have HB6 := mkHid (bon (bon HB9.out HW.out) hb6); have HX6 := mkHid (HX9.out.later (bon HW.out hb6)); have HF6 := mkHid (HA0.out.later (bon (bon HD0.out HW.out) hb6)); clear hb6)
              go_loopw [13] (fun i w' => ∃ (p : Nat) (x : Int), 1 ≤ p ∧ i = .int .i64 x ∧ x = p ∧ p ≤ N + 1 ∧ Hid (Below w6.heap.size w6 w')) (fun i _ => (N + 1 - intOf i).toNat)
              case atStart => exact ⟨1, 1, Nat.le_refl _, rfl, rfl, by omega, mkHid (Below.refl _ _)⟩
              case round =>
                obtain ⟨p, x, hp, rfl, hxp, hpN, HW⟩ := hrel
                obtain rfl : x = (p : Int) := hxp
                by_cases hlp : p < N
                · have cx := (HX6.out.later HW.out).cell p hlp
                  have cf := (HF6.out.later HW.out).cell p hlp
                  have hlp' : (p : Int) < (N : Int) := by omega
                  have ox := HXF.out p
                  by_cases h0 : X.getD p 0 = 0
                  · rw [h0] at cx
                    clear ox h0
                    generalize F.getD p 0 = z at *
                    go_wp2
                    go_roundw
                    case rel => exact ⟨p + 1, _, by omega, rfl, by omega, by omega, HW⟩
                    case measure => simp [intOf]; omega
                  · have oy := ox h0
                    rw [oy] at cf
                    clear ox oy
                    generalize X.getD p 0 = z at *
                    by_cases h1 : 0 < z
                    · have h2 : ¬ z < 0 := by omega
                      go_wp2
                      go_roundw
                      case rel => exact ⟨p + 1, _, by omega, rfl, by omega, by omega, HW⟩
                      case measure => simp [intOf]; omega
                    · have h2 : z < 0 := by omega
                      go_wp2
                      go_roundw
                      case rel => exact ⟨p + 1, _, by omega, rfl, by omega, by omega, HW⟩
                      case measure => simp [intOf]; omega
                · have hlp' : ¬ (p : Int) < (N : Int) := by omega
                  go_wp2
                  go_ret
                  exact ⟨rfl, bon HB6.out HW.out⟩
            · have he2 : (ev != 1) = true := by rw [bne_iff_ne]; exact he
              clear F1 F2
              go_wp2_with (go_at_call 17; ((with_reducible refine (E2.out _ _ _ (HLr.out.later (bon HD9.out HW.out)) (HA0.out.later (bon HD0.out HW.out)).rk).mono ?_)); rintro e w6 ⟨rfl, hb6⟩; have HB6 := mkHid (bon (bon HB9.out HW.out) hb6); clear hb6)
              go_ret
              exact ⟨rfl, HB6.out⟩
      · skip
        have HA0 := HA
        have hdead := F1.out rfl
        have E1 := mkHid (fun w' v' u' hv' hu' => eval_is (w := w') (v := v') (u := u') HSX.out hdead hv' hu')
        clear hdead
        go_wp2_with (first
          | (revert HD4; intro HD4; (go_at_call 17; ((with_reducible refine (E1.out _ _ _ (HLr.out.later (bon HD.out HD4.out)) HX4.out.rk).mono ?_)); rintro e w5 ⟨rfl, hb5⟩; have HX9 := mkHid (HX4.out.later hb5); have HB9 := mkHid (bon (bon HB.out HD4.out) hb5); have HD9 := mkHid (bon (bon HD.out HD4.out) hb5); have HD0 := mkHid (bon HD4.out hb5); have HA9 := mkHid (HA2.out.later (bon (bon HD.out HD4.out) hb5)); clear hb5))
          | (go_at_call 14; ((with_reducible refine (U1.out _ _ _ (HLr.out.later HD.out) (HA2.out.later HD.out).rk).mono ?_)); rintro e w4 ⟨g4, N4, rfl, hN4, hg4, ha4, hb4⟩; obtain rfl : N = N4 := HN2.out.trans hN4.symm; clear hN4; have HX4 := mkHid ha4; have HD4 := mkHid hb4; clear hb4 ha4))
        go_loopw [12] (fun i w' => ∃ (p : Nat) (x : Int), p ≤ N ∧ i = .int .i64 x ∧ x = p ∧ Hid (Below w5.heap.size w5 w')) (fun i _ => (N - intOf i).toNat)
        case atStart => exact ⟨0, 0, Nat.zero_le _, rfl, rfl, mkHid (Below.refl _ _)⟩
        case round =>
          obtain ⟨p, x, hp, rfl, hxp, HW⟩ := hrel
          obtain rfl : x = (p : Int) := hxp
          by_cases hlp : p < N
          · have cx := (HX9.out.later HW.out).cell p hlp
            have cb := (HA9.out.later HW.out).cell p hlp
            have hlp' : (p : Int) < (N : Int) := by omega
            obtain ⟨o1, o2⟩ := HXO.out p
            by_cases h0 : B.getD p 0 = 0
            · have ox := o2 h0
              rw [h0] at cb
              clear o1 o2 h0
              generalize X.getD p 0 = z at *
              rcases ox with rfl | rfl | rfl
              all_goals
                go_wp2_with fail
                (try dsimp only [List.append])
                go_quiet (fail)
                go_wp2
                go_roundw
                case rel => exact ⟨p + 1, _, by omega, rfl, by omega, mkHid (below_drewN HW.out nq)⟩
                case measure => simp [intOf]; omega
            · have ox := o1 h0
              rw [ox] at cx
              clear o1 o2 ox
              generalize B.getD p 0 = z at *
              have hz1 : (z != 0) = true := by rw [bne_iff_ne]; exact h0
              have hz2 : (z != z) = false := by simp
              by_cases h1 : z < -1
              · go_wp2_with fail
                have g2 : ¬ (1 : Int) < z := by omega
                (try dsimp only [List.append])
                go_quiet (fail)
                go_wp2
                go_roundw
                case rel => exact ⟨p + 1, _, by omega, rfl, by omega, mkHid (below_drewN HW.out nq)⟩
                case measure => simp [intOf]; omega
              · by_cases h2 : 1 < z
                · go_wp2_with fail
                  have g1 : ¬ z < (-1 : Int) := by omega
                  (try dsimp only [List.append])
                  go_quiet (fail)
                  go_wp2
                  go_roundw
                  case rel => exact ⟨p + 1, _, by omega, rfl, by omega, mkHid (below_drewN HW.out nq)⟩
                  case measure => simp [intOf]; omega
                · go_wp2_with fail
                  have g1 : ¬ z < (-1 : Int) := by omega
                  have g2 : ¬ (1 : Int) < z := by omega
                  (try dsimp only [List.append])
                  go_quiet (fail)
                  go_wp2
                  go_roundw
                  case rel => exact ⟨p + 1, _, by omega, rfl, by omega, mkHid (below_drewN HW.out nq)⟩
                  case measure => simp [intOf]; omega
          · have hlp' : ¬ (p : Int) < (N : Int) := by omega
            obtain ⟨wL, hwL⟩ : ∃ wL, wL = wr := ⟨_, rfl⟩
            subst hwL
            clear HXO
            have he : ev ≠ 1 := fun h => Bool.noConfusion (F2.out h).1
            have he2 : (ev != 1) = true := by rw [bne_iff_ne]; exact he
            clear F1 F2
            go_wp2_with (go_at_call 17; ((with_reducible refine (E2.out _ _ _ (HLr.out.later (bon HD9.out HW.out)) (HA0.out.later (bon HD0.out HW.out)).rk).mono ?_)); rintro e w6 ⟨rfl, hb6⟩; have HB6 := mkHid (bon (bon HB9.out HW.out) hb6); clear hb6)
            go_ret
            exact ⟨rfl, HB6.out⟩
end Go.Proofs.Ytilhamnibdjfaaa
