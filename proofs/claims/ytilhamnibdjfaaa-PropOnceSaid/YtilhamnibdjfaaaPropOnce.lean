/-
  PropOnce, walked: it returns true.
-/
import Derived.Test.YtilhamnibdjfaaaPrN
import Derived.Test.YtilhamnibdjfaaaPrIn
namespace Go.Proofs.Ytilhamnibdjfaaa
open Go.RowKit

theorem getD_lt {α : Type} {M : List α} {d : α} {i : Nat} (h : i < M.length) : M.getD i d = M[i] := by rw [List.getD_eq_getElem?_getD, List.getElem?_eq_getElem h]; rfl
theorem once_facts {M : List (List Int)} {X : List Int} (h : closed M X) : unit M X = (X, false) ∧ ¬ evl M X < 0 := by
  refine ⟨unit_none (closed_iff.1 h), fun h1 => ?_⟩
  have h2 := (evl_spec M X).2.2.1
  have h3 : evl M X = -1 := by omega
  obtain ⟨c, hc, e⟩ := (evl_spec M X).2.1.1 h3
  rcases h c hc with ⟨x, hx, e1⟩ | ⟨x, hx, y, hy, -, e1, -⟩
  · have := e x hx; omega
  · have := e x hx; omega
/-- how many times an open literal has come behind another one, and the last one -/
def RJ (A c : List Int) (j : Nat) (o la : Int) : Prop := 0 ≤ o ∧ o ≤ j ∧ (o = 0 → ∀ x ∈ c.take j, wh A x ≠ 0) ∧ (o = 1 → ∀ x ∈ c.take j, wh A x = 0 → x = la)
theorem RJ.start (A c : List Int) : RJ A c 0 0 0 := ⟨Int.le_refl _, Int.le_refl _, fun _ x hx => absurd hx (by simp), fun _ x hx => absurd hx (by simp)⟩
theorem take_mem {c : List Int} {j : Nat} (hj : j < c.length) (x : Int) : x ∈ c.take (j + 1) ↔ x ∈ c.take j ∨ x = c.getD j 0 := by
  rw [List.take_succ_eq_append_getElem hj, List.mem_append, getD_lt hj]; simp
theorem RJ.step {A c : List Int} {j : Nat} {o la : Int} (h : RJ A c j o la) (hj : j < c.length) :
    (wh A (c.getD j 0) ≠ 0 → RJ A c (j + 1) o la) ∧ (wh A (c.getD j 0) = 0 → o = 0 → RJ A c (j + 1) (o + 1) (c.getD j 0)) ∧ (wh A (c.getD j 0) = 0 → o ≠ 0 → c.getD j 0 ≠ la → RJ A c (j + 1) (o + 1) (c.getD j 0)) ∧ (wh A (c.getD j 0) = 0 → o ≠ 0 → c.getD j 0 = la → RJ A c (j + 1) o la) := by
  obtain ⟨h1, h2, h3, h4⟩ := h
  refine ⟨fun hw => ⟨h1, by omega, fun ho x hx => ?_, fun ho x hx e => ?_⟩, fun hw ho => ⟨by omega, by omega, fun h9 => by omega, fun _ x hx e => ?_⟩, fun hw ho hne => ⟨by omega, by omega, fun h9 => by omega, fun h9 => by omega⟩, fun hw ho he => ⟨h1, by omega, fun h9 => absurd h9 ho, fun h9 x hx e => ?_⟩⟩
  · rcases (take_mem hj x).1 hx with hx | hx
    · exact h3 ho x hx
    · rw [hx]; exact hw
  · rcases (take_mem hj x).1 hx with hx | hx
    · exact h4 ho x hx e
    · rw [hx] at e; exact absurd e hw
  · rcases (take_mem hj x).1 hx with hx | hx
    · exact absurd e (h3 ho x hx)
    · exact hx
  · rcases (take_mem hj x).1 hx with hx | hx
    · exact h4 h9 x hx e
    · rw [hx]; exact he
theorem RJ.last {A c : List Int} {o la : Int} (h : RJ A c c.length o la) (hk : okC A c) (ho : o = 1) : tr A c = true := by
  obtain ⟨h1, h2, h3, h4⟩ := h
  rw [List.take_of_length_le (Nat.le_refl _)] at h4
  rcases hk with hk | ⟨x, hx, y, hy, hne, e1, e2⟩
  · exact tr_iff.2 hk
  · exact absurd ((h4 ho x hx e1).trans (h4 ho y hy e2).symm) hne
theorem more_facts {M : List (List Int)} {c B : List Int} (h : (unit (M ++ [c]) B).2 = false) : ovr (unit M B).1 (unit (M ++ [c]) B).1 :=
  (unit_least (L := M) (fun d hd => unit_closed B h d (List.mem_append_left _ hd)) B (unit_ovr B)).2
theorem RR.form {w : World} {v : Value} {C : List (List Int)} (h : RR w v C) : ∃ a c, v = .slice a C.length c ∧ C.length ≤ c ∧ ∀ i, i < C.length → ∃ b o r, a = some ⟨b, o, none⟩ ∧ w.cell? ⟨b, o + i, none⟩ = some r ∧ RK .i64 w r (C.getD i []) := by
  obtain ⟨a, c, e, h1, -, h2⟩ := h
  exact ⟨a, c, e, h1, h2⟩
theorem run_copy_rows {w : World} {b b2 : Nat} {v0 v2 : Value} {M : List (List Int)} {us2 : List Value} (h : w.ownsRow b 35 1 v0 0 []) (h2 : CR w b2 v2 M us2) (hl : M.length ≤ 1000) (hb : b ≤ w.heap.size) :
    ∃ v' w', (Builtin.append_ #[22, 22] 22 #[v0, v2]).run Try.prog w = .ok v' w' ∧ w'.ownsRow b 35 1 v' M.length us2 ∧ w.grownBy w' v0.ownBlock := by
  obtain ⟨i0, hi0, hz0, hz1, hz2⟩ := sl_parts
  rcases h2.row.2 with ⟨rfl, h0⟩ | ⟨g, cap, cur, rfl, -⟩
  · have hM : M = [] := List.length_eq_zero_iff.1 h0
    subst hM
    have hu : us2 = [] := List.length_eq_zero_iff.1 h2.len
    subst hu
    exact ⟨v0, w, run_append_owned_none w b 22 22 35 i0 1 Try.underlying22 hi0 v0 0 [] h, h, ⟨rfl, rfl, rfl, Nat.le_refl _, fun _ _ _ => rfl⟩⟩
  · obtain ⟨v', w', e, k2, k3, -, -⟩ := run_append_own_at (P := Try.prog) w b 22 22 35 i0 _ 1 24 Try.underlying22 hi0 hz0 hz1 hz2 rfl (by omega) v0 0 [] h ⟨g, 0, none⟩ M.length cap us2 (by rw [h2.len]; omega) (h2.row.cells rfl) h2.one_cells (by unfold maxLen; omega) (by omega) hb
    rw [Nat.zero_add, List.nil_append] at k2
    exact ⟨v', w', e, k2, k3⟩
theorem run_one_row {w : World} {b n : Nat} {v u : Value} {us : List Value} {ad : Addr} (h : w.ownsRow b 35 1 v n us) (hu : u.oneCell' = true) (hc : ∀ j x, [u][j]? = some x → w.cell? (ad.add j) = some x) (hl : n ≤ 1000) (hb : b ≤ w.heap.size) :
    ∃ v' w', (Builtin.append_ #[22, 22] 22 #[v, .slice (some ad) 1 1]).run Try.prog w = .ok v' w' ∧ w'.ownsRow b 35 1 v' (n + 1) (us ++ [u]) ∧ w.grownBy w' v.ownBlock := by
  obtain ⟨i0, hi0, hz0, hz1, hz2⟩ := sl_parts
  obtain ⟨v', w', e, k2, k3, -, -⟩ := run_append_own_at (P := Try.prog) w b 22 22 35 i0 _ 1 24 Try.underlying22 hi0 hz0 hz1 hz2 rfl (by omega) v n us h ad 1 1 [u] rfl hc (fun x hx => by rw [List.mem_singleton.1 hx]; exact hu) (by unfold maxLen; omega) (by omega) hb
  exact ⟨v', w', e, k2, k3⟩
theorem CR.build {w2 w11 : World} {b base2 bu : Nat} {v2 v11 u : Value} {M : List (List Int)} {us2 : List Value} {R : List Int} (h : CR w2 base2 v2 M us2) (hb : Below w2.heap.size w2 w11) (hr : w11.ownsRow b 35 1 v11 (M.length + 1) (us2 ++ [u])) (hu : w11.ownsRow bu 3 1 u R.length (nums .i64 R)) : CR w11 b v11 (M ++ [R]) (us2 ++ [u]) := by
  refine ⟨by simpa using hr, by simp [h.len], fun i hi => ?_⟩
  by_cases hlt : i < us2.length
  · obtain ⟨b', k⟩ := h.els i hlt
    have e1 : (M ++ [R]).getD i [] = M.getD i [] := by
      have : i < M.length := by rw [← h.len]; exact hlt
      simp [List.getD_eq_getElem?_getD, List.getElem?_append_left this]
    rw [e1, List.getElem_append_left hlt]
    exact ⟨b', own_keep k hb⟩
  · have e : i = M.length := by simp [h.len] at hi hlt; omega
    subst e
    have e1 : (M ++ [R]).getD M.length [] = R := by simp [List.getD_eq_getElem?_getD]
    rw [e1, List.getElem_append_right (by rw [h.len]; exact Nat.le_refl _)]
    have e2 : M.length - us2.length = 0 := by rw [h.len]; omega
    simp only [e2, List.getElem_cons_zero]
    exact ⟨bu, hu⟩
theorem once_small {M : List (List Int)} {B D : List Int} (h : Small M B) (hM : M.length ≤ 50) (hD : Fit D) : Small (M ++ [D.take 20]) B := by
  refine ⟨by simp; omega, h.row, fun c hc => ?_⟩
  rcases List.mem_append.1 hc with hc | hc
  · exact h.fit c hc
  · rw [List.mem_singleton.1 hc]
    exact ⟨fun x hx => hD x (List.mem_of_mem_take hx), by simp; omega⟩
theorem nil_own (w : World) : (w.alloc (.cells #[] 35)).ownsRow w.heap.size 35 1 (.slice (some ⟨w.heap.size, 0, none⟩) 0 0) 0 [] := World.ownsRow_lit w #[] 0 (Nat.le_refl _) (by decide) rfl
theorem nil_cr (w : World) : CR (w.alloc (.cells #[] 35)) w.heap.size (.slice (some ⟨w.heap.size, 0, none⟩) 0 0) [] [] := ⟨nil_own w, rfl, fun i h => absurd h (by simp)⟩
set_option maxRecDepth 100000 in
set_option maxHeartbeats 16000000 in
theorem once_any (v : Value) (L : List (List Int)) (u : Value) (A : List Int) (t : Value) (D : List Int) (w : World) (h : Args w v u L A) (_ : ∀ x ∈ A, -128 ≤ x ∧ x ≤ 127) (ht : RK .i64 w t D) (htl : D.length ≤ maxLen) (htf : Fit D) : Calls Try.prog 5 #[v, u, t] w (RetV (.bool true) w) := by
  have FW := mkHid (fun w' (hb : Below w.heap.size w w') => few_args h hb)
  have hs := mkHid (few_small A h.fit)
  have hM := fewL_len L
  have HM := mkHid (fun k hk => fewL_fit h.fit ((fewL L).getD k []) (by rw [getD_lt hk]; exact List.getElem_mem hk))
  clear h
  generalize fewL L = M at *
  generalize A.take 50 = B at *
  obtain ⟨X, cf, hx⟩ : ∃ X cf, unit M B = (X, cf) := ⟨_, _, rfl⟩
  have HXE := mkHid hx
  have U1 := mkHid (fun w' v' u' hv' hu' => unit_is (w := w') (v := v') (u := u') hs.out hx hv' hu')
  have hXl : X.length = B.length := by have := unit_len M B; rw [hx] at this; exact this
  have HXL := mkHid hXl
  have hcl : cf = false → closed M X := fun e => by have := unit_closed (L := M) B; rw [hx] at this; exact this e
  have HCL := mkHid hcl
  have HSX := mkHid (hs.out.of (B := X) (by rw [hXl]; exact hs.out.row))
  obtain ⟨at', ct, rfl, hct, h0t, hrt⟩ := ht
  have HT : Hid (RK .i64 w (.slice at' D.length ct) D) := ⟨at', ct, rfl, hct, h0t, hrt⟩
  have hmx : maxLen = 9223372036854775807 := by decide
  rw [hmx] at htl
  have HTF := mkHid htf
  clear hx hXl hcl hmx hrt htf
  cases cf
  · obtain ⟨e1, e2⟩ := once_facts (HCL.out rfl)
    have U2 := mkHid (fun w' v' u' hv' hu' => unit_is (w := w') (v := v') (u := u') HSX.out e1 hv' hu')
    obtain ⟨ev, hev⟩ : ∃ r, evl M X = r := ⟨_, rfl⟩
    have E1 := mkHid (fun w' v' u' hv' hu' => eval_is (w := w') (v := v') (u := u') HSX.out hev hv' hu')
    have S1 := mkHid (fun w' v' u' hv' hu' => same_self X v' u' w' hv' hu' HSX.out.row)
    rw [hev] at e2
    have HC9 := mkHid (HCL.out rfl)
    clear e1 hev HCL
    go_enter Try.func5, Try.ntmps5
    go_wp2_with (first
      | (go_at_call 12; ((with_reducible refine (shown_any _).mono ?_)); rintro e w1 ⟨rfl, hb1⟩; have HB1 := mkHid hb1; clear hb1)
      | (revert HB5; intro HB5; (go_at_call 17; ((with_reducible refine (E1.out _ _ _ (HLr.out.later (bon (bon HD3.out HD4.out) HD5.out)) (HX3.out.later (bon HD4.out HD5.out)).rk).mono ?_)); rintro e w6 ⟨rfl, hb6⟩; have HB6 := mkHid (bon HB5.out hb6); have HD6 := mkHid (bon (bon (bon HD3.out HD4.out) HD5.out) hb6); have HX6 := mkHid (HX3.out.later (bon (bon HD4.out HD5.out) hb6)); clear hb6))
      | (revert HB4; intro HB4; (go_at_call 16; ((with_reducible refine (S1.out _ _ _ (HX3.out.later HD4.out).rk HX4.out.rk).mono ?_)); rintro e w5 ⟨rfl, hb5⟩; have HB5 := mkHid (bon HB4.out hb5); have HD5 := mkHid hb5; clear hb5))
      | (revert HB3; intro HB3; (go_at_call 14; ((with_reducible refine (U2.out _ _ _ (HLr.out.later HD3.out) HX3.out.rk).mono ?_)); rintro e w4 ⟨g4, N4, rfl, hN4, hg4, ha4, hb4⟩; obtain rfl : N = N4 := HN2.out.trans (HXL.out.symm.trans hN4.symm); clear hN4; have HX4 := mkHid ha4; have HB4 := mkHid (bon HB3.out hb4); have HD4 := mkHid hb4; clear hb4 ha4))
      | (revert HB2; intro HB2; (go_at_call 14; ((with_reducible refine (U1.out _ _ _ HLr.out HA2.out.rk).mono ?_)); rintro e w3 ⟨g3, N3, rfl, hN3, hg3, ha3, hb3⟩; obtain rfl : N = N3 := HN2.out.trans hN3.symm; clear hN3; have HX3 := mkHid ha3; have HB3 := mkHid (bon HB2.out hb3); have HD3 := mkHid hb3; clear hb3 ha3))
      | (revert HB1; intro HB1; (go_at_call 13; ((with_reducible refine (FW.out _ HB1.out).mono ?_)); rintro e w2 ⟨v2, us2, g, N, c2, rfl, hN2, hn2, hl2, hg2, ha2, hb2⟩; have HN2 := mkHid hN2; clear hN2; have HLc0 := mkHid hl2; have HA2 := mkHid ha2; have HB2 := mkHid (bon HB1.out hb2); clear hb2 ha2 hl2; have HLr := mkHid HLc0.out.rr; obtain ⟨al, cl, rfl, hcl, hrl⟩ := HLr.out.form; have HR := mkHid hrl; clear hrl)))
    obtain ⟨base2, HLc⟩ : ∃ b, Hid (CR w2 b (.slice al M.length cl) M us2) := ⟨_, HLc0⟩
    clear HLc0
    have HOK : Hid (∀ k, k < M.length → okC X (M.getD k [])) := fun k hk => HC9.out _ (by rw [getD_lt hk]; exact List.getElem_mem hk)
    obtain ⟨n, hn⟩ : ∃ n, M.length = n := ⟨_, rfl⟩
    rw [hn] at hM HM HR hcl HLc HLr HOK ⊢
    have HNM := mkHid hn
    clear hn
    obtain ⟨f, hfd⟩ : ∃ f : Nat → List Int, f = fun j => M.getD j [] := ⟨_, rfl⟩
    have ef : ∀ j, M.getD j [] = f j := fun j => by rw [hfd]
    simp only [ef] at HR HM HOK
    clear ef hfd U1 U2 E1 S1 e2
    go_loopw [12] (fun i w' => ∃ (m : Nat) (x : Int), m ≤ n ∧ i = .int .i64 x ∧ x = m ∧ Hid (Below w6.heap.size w6 w')) (fun i _ => (n - intOf i).toNat)
    case atStart => exact ⟨0, 0, Nat.zero_le _, rfl, rfl, mkHid (Below.refl _ _)⟩
    case round =>
      obtain ⟨m, x, hm, rfl, hxm, HW⟩ := hrel
      obtain rfl : x = (m : Int) := hxm
      by_cases hlm : m < n
      · obtain ⟨b, of, r, rfl, e1, hrk⟩ := HR.out m hlm
        obtain ⟨hfit, h20⟩ := HM.out m hlm
        have hok := HOK.out m hlm
        have E1 := mkHid e1
        have g1 := cell_later (bon HD6.out HW.out) e1
        have hlm' : (m : Int) < (n : Int) := by omega
        clear e1 HM HR HOK
        generalize f m = R at *
        have HRK := mkHid hrk
        obtain ⟨ar, cr, rfl, hcr, -, hrr⟩ := hrk
        have HRR := mkHid hrr
        have OPN := mkHid (fun w' u' x hu' h1 h2 => ropen_any x X u' w' hu' HSX.out.row h1 h2)
        have HFT := mkHid hfit.get
        have HLD := mkHid (rholds_any R X (.slice ar R.length cr) (.slice (some ⟨g3, 0, none⟩) N N))
        have HLD2 : Hid (∀ w', RK .i64 w' (.slice ar R.length cr) R → RK .i8 w' (.slice (some ⟨g3, 0, none⟩) N N) X → Calls Try.prog 20 #[.slice ar R.length cr, .slice (some ⟨g3, 0, none⟩) N N] w' (RetV (.bool (tr X R)) w')) := fun w' a b => HLD.out w' a b (by omega) HSX.out.row hfit
        obtain ⟨J, J0, JS, JE⟩ : ∃ J : Nat → Int → Int → Prop, J 0 0 0 ∧ Hid (∀ j o la, j < R.length → J j o la → 0 ≤ o ∧ o ≤ j ∧ (wh X (R.getD j 0) ≠ 0 → J (j + 1) o la) ∧ (wh X (R.getD j 0) = 0 → o = 0 → J (j + 1) (o + 1) (R.getD j 0)) ∧ (wh X (R.getD j 0) = 0 → o ≠ 0 → R.getD j 0 ≠ la → J (j + 1) (o + 1) (R.getD j 0)) ∧ (wh X (R.getD j 0) = 0 → o ≠ 0 → R.getD j 0 = la → J (j + 1) o la)) ∧ Hid (∀ o la, J R.length o la → 0 ≤ o ∧ o ≤ R.length ∧ (o = 1 → tr X R = true)) :=
          ⟨RJ X R, RJ.start X R, fun j o la hj h => ⟨h.1, h.2.1, h.step hj⟩, fun o la h => ⟨h.1, h.2.1, fun e => h.last hok e⟩⟩
        clear hrr hfit hok HLD
        generalize tr X R = tx at *
        obtain ⟨l, hl⟩ : ∃ l, R.length = l := ⟨_, rfl⟩
        rw [hl] at h20 g1 E1 hcr HRR JS JE HFT HLD2 HRK
        clear hl
        obtain ⟨fr, hfr⟩ : ∃ f : Nat → Int, f = fun j => R.getD j 0 := ⟨_, rfl⟩
        have er : ∀ j, R.getD j 0 = fr j := fun j => by rw [hfr]
        simp only [er] at HRR JS HFT
        clear er hfr
        go_wp2
        go_loopw [13, 14, 15] (fun q s i w' => ∃ (j : Nat) (y o la : Int), j ≤ l ∧ i = .int .i64 y ∧ y = j ∧ q = .int .i64 o ∧ s = .int .i64 la ∧ Hid (J j o la) ∧ Hid (Below w6.heap.size w6 w')) (fun _ _ i _ => (l - intOf i).toNat)
        case atStart => exact ⟨0, 0, 0, 0, Nat.zero_le _, rfl, rfl, rfl, rfl, J0, HW⟩
        case round =>
          clear HW
          obtain ⟨j, y, o, la, hj, rfl, hyj, rfl, rfl, HJ, HW⟩ := hrel
          obtain rfl : y = (j : Int) := hyj
          clear J0
          have g2 := cell_later (bon HD6.out HW.out) E1.out
          by_cases hlj : j < l
          · obtain ⟨b3, o3, rfl, e3⟩ := HRR.out j hlj
            have g3' := cell_later (bon HD6.out HW.out) e3
            obtain ⟨o1, o2, s1, s2, s3, s4⟩ := JS.out j o la hlj HJ.out
            have S1 := mkHid s1
            have S2 := mkHid s2
            have S3 := mkHid s3
            have S4 := mkHid s4
            obtain ⟨ft1, ft2⟩ := HFT.out j hlj
            have hlj' : (j : Int) < (l : Int) := by omega
            have OP := mkHid (fun w' u' hu' => OPN.out w' u' (fr j) hu' ft1 ft2)
            clear e3 s1 s2 s3 s4 JS JE HRR HFT OPN ft1 ft2
            generalize fr j = z at *
            by_cases hw0 : wh X z = 0
            · rw [decide_eq_true hw0] at OP
              by_cases ho : o = 0
              · subst ho
                have HJ2 := mkHid (S2.out hw0 rfl)
                clear S1 S2 S3 S4 hw0
                go_wp2_with (go_at_call 19; ((with_reducible refine (OP.out _ _ (HX6.out.later HW.out).rk).mono ?_)); rintro e w8 ⟨rfl, hb8⟩; have HW8 := mkHid (bon HW.out hb8); have g4 := cell_later hb8 g2; have g5 := cell_later hb8 g3'; clear hb8)
                go_roundw
                case rel => exact ⟨j + 1, _, _, _, by omega, rfl, by omega, rfl, rfl, HJ2, HW8⟩
                case measure => simp [intOf]; omega
              · have ho9 : (o == 0) = false := by simpa using ho
                by_cases hz : z = la
                · have HJ2 := mkHid (S4.out hw0 ho hz)
                  subst hz
                  have hz9 : (z != z) = false := by simp
                  clear S1 S2 S3 S4 hw0
                  go_wp2_with (go_at_call 19; ((with_reducible refine (OP.out _ _ (HX6.out.later HW.out).rk).mono ?_)); rintro e w8 ⟨rfl, hb8⟩; have HW8 := mkHid (bon HW.out hb8); have g4 := cell_later hb8 g2; have g5 := cell_later hb8 g3'; clear hb8)
                  go_roundw
                  case rel => exact ⟨j + 1, _, _, _, by omega, rfl, by omega, rfl, rfl, HJ2, HW8⟩
                  case measure => simp [intOf]; omega
                · have HJ2 := mkHid (S3.out hw0 ho hz)
                  have hz9 : (z != la) = true := by rw [bne_iff_ne]; exact hz
                  clear S1 S2 S3 S4 hw0
                  go_wp2_with (go_at_call 19; ((with_reducible refine (OP.out _ _ (HX6.out.later HW.out).rk).mono ?_)); rintro e w8 ⟨rfl, hb8⟩; have HW8 := mkHid (bon HW.out hb8); have g4 := cell_later hb8 g2; have g5 := cell_later hb8 g3'; clear hb8)
                  go_roundw
                  case rel => exact ⟨j + 1, _, _, _, by omega, rfl, by omega, rfl, rfl, HJ2, HW8⟩
                  case measure => simp [intOf]; omega
            · rw [decide_eq_false hw0] at OP
              have HJ2 := mkHid (S1.out hw0)
              clear S1 S2 S3 S4 hw0
              go_wp2_with (go_at_call 19; ((with_reducible refine (OP.out _ _ (HX6.out.later HW.out).rk).mono ?_)); rintro e w8 ⟨rfl, hb8⟩; have HW8 := mkHid (bon HW.out hb8); clear hb8)
              go_roundw
              case rel => exact ⟨j + 1, _, _, _, by omega, rfl, by omega, rfl, rfl, HJ2, HW8⟩
              case measure => simp [intOf]; omega
          · obtain rfl : j = l := by omega
            obtain ⟨o1, o2, s1⟩ := JE.out o la HJ.out
            have S1 := mkHid s1
            clear s1 JS JE HRR HFT OPN
            by_cases ho : o = 1
            · subst ho
              obtain rfl := S1.out rfl
              clear S1
              go_wp2_with (go_at_call 20; ((with_reducible refine (HLD2.out _ (HRK.out.later (bon HD6.out HW.out)) (HX6.out.later HW.out).rk).mono ?_)); rintro e w8 ⟨rfl, hb8⟩; have HW8 := mkHid (bon HW.out hb8); clear hb8)
              go_roundw
              case rel => exact ⟨m + 1, _, by omega, rfl, by omega, HW8⟩
              case measure => simp [intOf]; omega
            · have ho9 : (o == 1) = false := by simpa using ho
              clear S1
              go_wp2
              go_roundw
              case rel => exact ⟨m + 1, _, by omega, rfl, by omega, HW⟩
              case measure => simp [intOf]; omega
      · obtain rfl : m = n := by omega
        have hlm' : ¬ (m : Int) < (m : Int) := by omega
        clear HM HR HOK
        obtain ⟨i0, hi0, hz0, hz1, hz2⟩ := int_parts
        obtain ⟨Z, cz, hz⟩ : ∃ X cf, unit (M ++ [D.take 20]) B = (X, cf) := ⟨_, _, rfl⟩
        have hf3 : cz = false → ovr X Z := fun e => by
          have h9 := more_facts (M := M) (c := D.take 20) (B := B)
          rw [hz, HXE.out] at h9
          exact h9 e
        have F3 := mkHid hf3
        have HS3 := mkHid (once_small (D := D) hs.out (by rw [HNM.out]; exact hM) HTF.out)
        have U3 := mkHid (fun w' v' u' hv' hu' => unit_is (w := w') (v := v') (u := u') HS3.out hz hv' hu')
        clear hz hf3 HS3
        cases at' with
        | none =>
          obtain ⟨rfl, rfl⟩ := HT.out.none_nil
          have e0 : ([] : List Int).length = 0 := rfl
          rw [e0] at *
          clear e0
          go_wp2_with fail
          (try dsimp only [List.append])
          refine wp_region_held_drew (S := fun _ => True) (by kernel_rfl) trivial (fun hHeld => ?_)
          have HWc := mkHid (bon HW.out (bdrew (Below.refl wr.heap.size wr)))
          generalize wr.drew = V at *
          refine wpAnyH_take (i := 1) (v := ?_) rfl (by kernel_rfl) (by kernel_rfl) (by kernel_rfl) (fun _ _ _ h => h) (Or.inl ⟨by kernel_rfl, ?_⟩) (by assumption) ?_
          rotate_left
          · (intro w hSw; (try dsimp only at hSw); go_simp; try with_reducible rfl)
          simp only [Act.put, List.getElem_toArray, List.getElem_cons_succ, List.getElem_cons_zero, List.setIfInBounds_toArray, List.set_cons_zero, List.set_cons_succ]
          refine wpAnyH_take (i := 4) (v := ?_) rfl (by kernel_rfl) (by kernel_rfl) (by kernel_rfl) (fun _ _ _ h => h) (Or.inl ⟨by kernel_rfl, ?_⟩) (by assumption) ?_
          rotate_left
          · (intro w hSw; (try dsimp only at hSw); go_simp; try with_reducible rfl)
          simp only [Act.put, List.getElem_toArray, List.getElem_cons_succ, List.getElem_cons_zero, List.setIfInBounds_toArray, List.set_cons_zero, List.set_cons_succ]
          refine wpAnyH_take (i := 5) (v := ?_) rfl (by kernel_rfl) (by kernel_rfl) (by kernel_rfl) (fun _ _ _ h => h) (Or.inl ⟨by kernel_rfl, ?_⟩) (by assumption) ?_
          rotate_left
          · (intro w hSw; (try dsimp only at hSw); go_simp; try with_reducible rfl)
          simp only [Act.put, List.getElem_toArray, List.getElem_cons_succ, List.getElem_cons_zero, List.setIfInBounds_toArray, List.set_cons_zero, List.set_cons_succ]
          refine wpAnyH_take (i := 6) (v := ?_) rfl (by kernel_rfl) (by kernel_rfl) (by kernel_rfl) (fun _ _ _ h => h) (Or.inl ⟨by kernel_rfl, ?_⟩) (by assumption) ?_
          rotate_left
          · (intro w hSw; (try dsimp only at hSw); go_simp; try with_reducible rfl)
          simp only [Act.put, List.getElem_toArray, List.getElem_cons_succ, List.getElem_cons_zero, List.setIfInBounds_toArray, List.set_cons_zero, List.set_cons_succ]
          refine wpAnyH_take (i := 7) (v := ?_) rfl (by kernel_rfl) (by kernel_rfl) (by kernel_rfl) (fun _ _ _ h => h) (Or.inl ⟨by kernel_rfl, ?_⟩) (by assumption) ?_
          rotate_left
          · (intro w hSw; (try dsimp only at hSw); go_simp; try with_reducible rfl)
          simp only [Act.put, List.getElem_toArray, List.getElem_cons_succ, List.getElem_cons_zero, List.setIfInBounds_toArray, List.set_cons_zero, List.set_cons_succ]
          refine wpAnyH_take (i := 8) (v := ?_) rfl (by kernel_rfl) (by kernel_rfl) (by kernel_rfl) (fun _ _ _ h => h) (Or.inl ⟨by kernel_rfl, ?_⟩) (by assumption) ?_
          rotate_left
          · (intro w hSw; (try dsimp only at hSw); go_simp; try with_reducible rfl)
          simp only [Act.put, List.getElem_toArray, List.getElem_cons_succ, List.getElem_cons_zero, List.setIfInBounds_toArray, List.set_cons_zero, List.set_cons_succ]
          refine wpAnyH_take (i := 12) (v := ?_) rfl (by kernel_rfl) (by kernel_rfl) (by kernel_rfl) (fun _ _ _ h => h) (Or.inl ⟨by kernel_rfl, ?_⟩) (by assumption) ?_
          rotate_left
          · (intro w hSw; (try dsimp only at hSw); go_simp; try with_reducible rfl)
          simp only [Act.put, List.getElem_toArray, List.getElem_cons_succ, List.getElem_cons_zero, List.setIfInBounds_toArray, List.set_cons_zero, List.set_cons_succ]
          refine wpAnyH_ready (rs := [0, 3]) (by kernel_rfl) (by simp) ?_
          refine AllReadyH.cons rfl (fun K hK => ?_) ?_
          · have b0 := bel_alloc V (.cells #[] 35)
            have R0 := mkHid (own_base (nil_own V) HWc.out.size)
            replace HWc := mkHid (bon HWc.out b0)
            go_simp
            refine hK.out _ _ trivial (fun hHeld => ?_)
            clear hK b0
            generalize V.alloc (.cells #[] 35) = W0 at *
            refine wpAnyH_ready (rs := [2, 3]) (by kernel_rfl) (by simp) ?_
            refine AllReadyH.cons rfl (fun K hK => ?_) ?_
            · obtain ⟨v6, W2, hrun, hr2, hg2⟩ := run_copy_rows R0.out (HLc.out.later (bon HD6.out HWc.out)) (by rw [HNM.out]; omega) HWc.out.size
              rw [HNM.out] at hr2
              have R2 := mkHid hr2
              replace HWc := mkHid (Below.trans HWc.out (below_grown hg2 (fun k hk => (own_lt R0.out hk).1) HWc.out.size))
              clear hr2 hg2
              refine step_run (by rfl) _ _ (by rfl) (by rfl) (by rfl) (by rfl) hrun ?_
              refine hK.out _ _ trivial (fun hHeld => ?_)
              clear hK hrun R0
              refine wpAnyH_ready (rs := [3]) (by kernel_rfl) (by simp) ?_
              refine AllReadyH.cons rfl (fun K hK => ?_) AllReadyH.nil
              have b0 := bel_alloc W2 (.cells #[] 3)
              have O3 : Hid ((W2.alloc (.cells #[] 3)).ownsRow w6.heap.size 3 1 (.slice (some ⟨W2.heap.size, 0, none⟩) 0 0) 0 []) := own_base (World.ownsRow_lit (base := W2.heap.size) (size := 1) (e := 3) W2 #[] 0 (Nat.le_refl _) (by decide) rfl) HWc.out.size
              replace R2 := mkHid (own_keep R2.out b0)
              replace HWc := mkHid (bon HWc.out b0)
              go_simp
              refine hK.out _ _ trivial (fun hHeld => ?_)
              clear hK b0
              generalize W2.alloc (.cells #[] 3) = W3 at *
              refine wpAnyH_ready (rs := [9]) (by kernel_rfl) (by simp) ?_
              refine AllReadyH.cons rfl (fun K hK => ?_) AllReadyH.nil
              obtain ⟨v9, W9, hrun, ho9, hg9, -⟩ := run_nums .i64 Try.underlying35 hi0 hz0 hz1 hz2 (n := 0) (m := 0) (c2 := 0) (R := []) O3.out (HT.out.later (bon HB6.out HWc.out)) (Nat.zero_le _) (by omega) (by omega) HWc.out.size (fun _ => rfl)
              rw [List.nil_append, Nat.zero_add] at ho9
              have O9 := mkHid ho9
              replace R2 := mkHid (own_grown R2.out hg9 (own_apart R2.out O3.out (by decide)))
              replace HWc := mkHid (Below.trans HWc.out (below_grown hg9 (fun k hk => (own_lt O3.out hk).1) HWc.out.size))
              clear ho9 hg9
              refine step_run (by rfl) _ _ (by rfl) (by rfl) (by rfl) (by rfl) hrun ?_
              refine hK.out _ _ trivial (fun hHeld => ?_)
              clear hK hrun O3
              refine wpAnyH_ready (rs := [10]) (by kernel_rfl) (by simp) ?_
              refine AllReadyH.cons rfl (fun K hK => ?_) AllReadyH.nil
              obtain ⟨a9, c9, rfl, -⟩ := own_val O9.out
              have b0 := bel_alloc W9 (.cells #[.slice a9 0 c9] 35)
              have N9 := mkHid (one_cell W9 (.slice a9 0 c9) 35)
              replace R2 := mkHid (own_keep R2.out b0)
              replace O9 := mkHid (own_keep O9.out b0)
              replace HWc := mkHid (bon HWc.out b0)
              go_simp
              refine hK.out _ _ trivial (fun hHeld => ?_)
              clear hK b0
              generalize W9.alloc (.cells #[.slice a9 0 c9] 35) = W10 at *
              refine wpAnyH_ready (rs := [11]) (by kernel_rfl) (by simp) ?_
              refine AllReadyH.cons rfl (fun K hK => ?_) AllReadyH.nil
              obtain ⟨v11, W11, hrun, hr11, hg11⟩ := run_one_row (u := .slice a9 0 c9) R2.out rfl N9.out (by omega) HWc.out.size
              have R11 := mkHid hr11
              replace O9 := mkHid (own_grown O9.out hg11 (own_apart O9.out R2.out (by decide)))
              replace HWc := mkHid (Below.trans HWc.out (below_grown hg11 (fun k hk => (own_lt R2.out hk).1) HWc.out.size))
              clear hr11 hg11
              refine step_run (by rfl) _ _ (by rfl) (by rfl) (by rfl) (by rfl) hrun ?_
              refine hK.out _ _ trivial (fun hHeld => ?_)
              clear hK hrun R2 N9
              refine wpAnyH_ready (rs := [13]) (by kernel_rfl) (by simp) ?_
              refine AllReadyH.cons rfl (fun K hK => ?_) AllReadyH.nil
              have hO9 : W11.ownsRow w6.heap.size 3 1 (.slice a9 0 c9) (([] : List Int).take 20).length (nums .i64 (([] : List Int).take 20)) := by
                have := O9.out
                exact this
              have hR11 := R11.out
              rw [← HNM.out] at hR11
              have HC13 := mkHid (CR.build HLc.out (bon HD6.out HWc.out) hR11 hO9)
              clear hO9 hR11 R11 O9
              go_simp
              go_wp2_with (go_at_call 14; ((with_reducible refine (U3.out _ _ _ HC13.out.rr (HA2.out.later (bon HD6.out HWc.out)).rk).mono ?_)); rintro e W13 ⟨g13, N13, rfl, hN13, hg13, ha13, hb13⟩; obtain rfl : N = N13 := HN2.out.trans hN13.symm; clear hN13; have HX13 := mkHid ha13; have HY13 := mkHid (HX6.out.later (bon HWc.out hb13)); have HB13 := mkHid (bon (bon HB6.out HWc.out) hb13); clear hb13 ha13)
              refine hK.out _ _ trivial (fun hHeld => ?_)
              clear hK HC13
              refine wpAnyH_take (i := 14) (v := ?_) rfl (by kernel_rfl) (by kernel_rfl) (by kernel_rfl) (fun _ _ _ h => h) (Or.inl ⟨by kernel_rfl, ?_⟩) (by assumption) ?_
              rotate_left
              · (intro w hSw; (try dsimp only at hSw); go_simp; try with_reducible rfl)
              simp only [Act.put, List.getElem_toArray, List.getElem_cons_succ, List.getElem_cons_zero, List.setIfInBounds_toArray, List.set_cons_zero, List.set_cons_succ]
              refine wpAnyH_take (i := 15) (v := ?_) rfl (by kernel_rfl) (by kernel_rfl) (by kernel_rfl) (fun _ _ _ h => h) (Or.inl ⟨by kernel_rfl, ?_⟩) (by assumption) ?_
              rotate_left
              · (intro w hSw; (try dsimp only at hSw); go_simp; try with_reducible rfl)
              simp only [Act.put, List.getElem_toArray, List.getElem_cons_succ, List.getElem_cons_zero, List.setIfInBounds_toArray, List.set_cons_zero, List.set_cons_succ]
              refine wpAnyH_take (i := 16) (v := ?_) rfl (by kernel_rfl) (by kernel_rfl) (by kernel_rfl) (fun _ _ _ h => h) (Or.inl ⟨by kernel_rfl, ?_⟩) (by assumption) ?_
              rotate_left
              · (intro w hSw; (try dsimp only at hSw); go_simp; try with_reducible rfl)
              simp only [Act.put, List.getElem_toArray, List.getElem_cons_succ, List.getElem_cons_zero, List.setIfInBounds_toArray, List.set_cons_zero, List.set_cons_succ]
              refine wpAnyH_take (i := 17) (v := ?_) rfl (by kernel_rfl) (by kernel_rfl) (by kernel_rfl) (fun _ _ _ h => h) (Or.inl ⟨by kernel_rfl, ?_⟩) (by assumption) ?_
              rotate_left
              · (intro w hSw; (try dsimp only at hSw); go_simp; try with_reducible rfl)
              simp only [Act.put, List.getElem_toArray, List.getElem_cons_succ, List.getElem_cons_zero, List.setIfInBounds_toArray, List.set_cons_zero, List.set_cons_succ]
              refine wpAnyH_take (i := 18) (v := ?_) rfl (by kernel_rfl) (by kernel_rfl) (by kernel_rfl) (fun _ _ _ h => h) (Or.inl ⟨by kernel_rfl, ?_⟩) (by assumption) ?_
              rotate_left
              · (intro w hSw; (try dsimp only at hSw); go_simp; try with_reducible rfl)
              simp only [Act.put, List.getElem_toArray, List.getElem_cons_succ, List.getElem_cons_zero, List.setIfInBounds_toArray, List.set_cons_zero, List.set_cons_succ]
              refine wpAnyH_done (by kernel_rfl) ?_ _
              cases cz
              · have HOV : Hid (∀ i, X.getD i 0 ≠ 0 → Z.getD i 0 = X.getD i 0) := fun i => ((F3.out rfl).2 i).1
                clear F3
                go_wp2
                go_loopw [18] (fun i w' => ∃ (p : Nat) (x : Int), p ≤ N ∧ i = .int .i64 x ∧ x = p ∧ Hid (Below W13.heap.size W13 w')) (fun i _ => (N - intOf i).toNat)
                case atStart => exact ⟨0, 0, Nat.zero_le _, rfl, rfl, mkHid (Below.refl _ _)⟩
                case round =>
                  obtain ⟨p, x, hp, rfl, hxp, HW⟩ := hrel
                  obtain rfl : x = (p : Int) := hxp
                  by_cases hlp : p < N
                  · have cz := (HX13.out.later HW.out).cell p hlp
                    have cx := (HY13.out.later HW.out).cell p hlp
                    have hlp' : (p : Int) < (N : Int) := by omega
                    have hov := HOV.out p
                    by_cases h0 : X.getD p 0 = 0
                    · rw [h0] at cx
                      clear hov h0
                      generalize Z.getD p 0 = z at *
                      go_wp2_with fail
                      go_quiet (fail)
                      go_wp2
                      go_roundw
                      case rel => exact ⟨p + 1, _, by omega, rfl, by omega, mkHid (below_drewN HW.out nq)⟩
                      case measure => simp [intOf]; omega
                    · have h1 := hov h0
                      rw [h1] at cz
                      clear hov h1
                      generalize X.getD p 0 = z at *
                      have hz1 : (z != 0) = true := by rw [bne_iff_ne]; exact h0
                      have hz2 : (z != z) = false := by simp
                      go_wp2_with fail
                      go_quiet (fail)
                      go_wp2
                      go_roundw
                      case rel => exact ⟨p + 1, _, by omega, rfl, by omega, mkHid (below_drewN HW.out nq)⟩
                      case measure => simp [intOf]; omega
                  · have hlp' : ¬ (p : Int) < (N : Int) := by omega
                    go_wp2
                    go_ret
                    exact ⟨rfl, bon HB13.out HW.out⟩
              · clear F3
                go_wp2
                go_loopw [18] (fun i w' => ∃ (x : Int), i = .int .i64 x ∧ x = 0 ∧ Hid (Below W13.heap.size W13 w')) (fun _ _ => 0)
                case atStart => exact ⟨0, rfl, rfl, mkHid (Below.refl _ _)⟩
                case round =>
                  obtain ⟨x, rfl, rfl, HW⟩ := hrel
                  by_cases hn0 : 0 < N
                  · have hlt' : (0 : Int) < (N : Int) := by omega
                    go_wp2
                    go_ret
                    exact ⟨rfl, bon HB13.out HW.out⟩
                  · have hlt' : ¬ (0 : Int) < (N : Int) := by omega
                    go_wp2
                    go_ret
                    exact ⟨rfl, bon HB13.out HW.out⟩
            refine AllReadyH.cons rfl (fun K hK => ?_) AllReadyH.nil
            have b0 := bel_alloc W0 (.cells #[] 3)
            have O3 : Hid ((W0.alloc (.cells #[] 3)).ownsRow w6.heap.size 3 1 (.slice (some ⟨W0.heap.size, 0, none⟩) 0 0) 0 []) := own_base (World.ownsRow_lit (base := W0.heap.size) (size := 1) (e := 3) W0 #[] 0 (Nat.le_refl _) (by decide) rfl) HWc.out.size
            replace R0 := mkHid (own_keep R0.out b0)
            replace HWc := mkHid (bon HWc.out b0)
            go_simp
            refine hK.out _ _ trivial (fun hHeld => ?_)
            clear hK b0
            generalize W0.alloc (.cells #[] 3) = W3 at *
            refine wpAnyH_ready (rs := [2]) (by kernel_rfl) (by simp) ?_
            refine AllReadyH.cons rfl (fun K hK => ?_) AllReadyH.nil
            obtain ⟨v6, W2, hrun, hr2, hg2⟩ := run_copy_rows R0.out (HLc.out.later (bon HD6.out HWc.out)) (by rw [HNM.out]; omega) HWc.out.size
            rw [HNM.out] at hr2
            have R2 := mkHid hr2
            replace O3 := mkHid (own_grown O3.out hg2 (own_apart O3.out R0.out (by decide)))
            replace HWc := mkHid (Below.trans HWc.out (below_grown hg2 (fun k hk => (own_lt R0.out hk).1) HWc.out.size))
            clear hr2 hg2
            refine step_run (by rfl) _ _ (by rfl) (by rfl) (by rfl) (by rfl) hrun ?_
            refine hK.out _ _ trivial (fun hHeld => ?_)
            clear hK hrun R0
            refine wpAnyH_ready (rs := [9]) (by kernel_rfl) (by simp) ?_
            refine AllReadyH.cons rfl (fun K hK => ?_) AllReadyH.nil
            obtain ⟨v9, W9, hrun, ho9, hg9, -⟩ := run_nums .i64 Try.underlying35 hi0 hz0 hz1 hz2 (n := 0) (m := 0) (c2 := 0) (R := []) O3.out (HT.out.later (bon HB6.out HWc.out)) (Nat.zero_le _) (by omega) (by omega) HWc.out.size (fun _ => rfl)
            rw [List.nil_append, Nat.zero_add] at ho9
            have O9 := mkHid ho9
            replace R2 := mkHid (own_grown R2.out hg9 (own_apart R2.out O3.out (by decide)))
            replace HWc := mkHid (Below.trans HWc.out (below_grown hg9 (fun k hk => (own_lt O3.out hk).1) HWc.out.size))
            clear ho9 hg9
            refine step_run (by rfl) _ _ (by rfl) (by rfl) (by rfl) (by rfl) hrun ?_
            refine hK.out _ _ trivial (fun hHeld => ?_)
            clear hK hrun O3
            refine wpAnyH_ready (rs := [10]) (by kernel_rfl) (by simp) ?_
            refine AllReadyH.cons rfl (fun K hK => ?_) AllReadyH.nil
            obtain ⟨a9, c9, rfl, -⟩ := own_val O9.out
            have b0 := bel_alloc W9 (.cells #[.slice a9 0 c9] 35)
            have N9 := mkHid (one_cell W9 (.slice a9 0 c9) 35)
            replace R2 := mkHid (own_keep R2.out b0)
            replace O9 := mkHid (own_keep O9.out b0)
            replace HWc := mkHid (bon HWc.out b0)
            go_simp
            refine hK.out _ _ trivial (fun hHeld => ?_)
            clear hK b0
            generalize W9.alloc (.cells #[.slice a9 0 c9] 35) = W10 at *
            refine wpAnyH_ready (rs := [11]) (by kernel_rfl) (by simp) ?_
            refine AllReadyH.cons rfl (fun K hK => ?_) AllReadyH.nil
            obtain ⟨v11, W11, hrun, hr11, hg11⟩ := run_one_row (u := .slice a9 0 c9) R2.out rfl N9.out (by omega) HWc.out.size
            have R11 := mkHid hr11
            replace O9 := mkHid (own_grown O9.out hg11 (own_apart O9.out R2.out (by decide)))
            replace HWc := mkHid (Below.trans HWc.out (below_grown hg11 (fun k hk => (own_lt R2.out hk).1) HWc.out.size))
            clear hr11 hg11
            refine step_run (by rfl) _ _ (by rfl) (by rfl) (by rfl) (by rfl) hrun ?_
            refine hK.out _ _ trivial (fun hHeld => ?_)
            clear hK hrun R2 N9
            refine wpAnyH_ready (rs := [13]) (by kernel_rfl) (by simp) ?_
            refine AllReadyH.cons rfl (fun K hK => ?_) AllReadyH.nil
            have hO9 : W11.ownsRow w6.heap.size 3 1 (.slice a9 0 c9) (([] : List Int).take 20).length (nums .i64 (([] : List Int).take 20)) := by
              have := O9.out
              exact this
            have hR11 := R11.out
            rw [← HNM.out] at hR11
            have HC13 := mkHid (CR.build HLc.out (bon HD6.out HWc.out) hR11 hO9)
            clear hO9 hR11 R11 O9
            go_simp
            go_wp2_with (go_at_call 14; ((with_reducible refine (U3.out _ _ _ HC13.out.rr (HA2.out.later (bon HD6.out HWc.out)).rk).mono ?_)); rintro e W13 ⟨g13, N13, rfl, hN13, hg13, ha13, hb13⟩; obtain rfl : N = N13 := HN2.out.trans hN13.symm; clear hN13; have HX13 := mkHid ha13; have HY13 := mkHid (HX6.out.later (bon HWc.out hb13)); have HB13 := mkHid (bon (bon HB6.out HWc.out) hb13); clear hb13 ha13)
            refine hK.out _ _ trivial (fun hHeld => ?_)
            clear hK HC13
            refine wpAnyH_take (i := 14) (v := ?_) rfl (by kernel_rfl) (by kernel_rfl) (by kernel_rfl) (fun _ _ _ h => h) (Or.inl ⟨by kernel_rfl, ?_⟩) (by assumption) ?_
            rotate_left
            · (intro w hSw; (try dsimp only at hSw); go_simp; try with_reducible rfl)
            simp only [Act.put, List.getElem_toArray, List.getElem_cons_succ, List.getElem_cons_zero, List.setIfInBounds_toArray, List.set_cons_zero, List.set_cons_succ]
            refine wpAnyH_take (i := 15) (v := ?_) rfl (by kernel_rfl) (by kernel_rfl) (by kernel_rfl) (fun _ _ _ h => h) (Or.inl ⟨by kernel_rfl, ?_⟩) (by assumption) ?_
            rotate_left
            · (intro w hSw; (try dsimp only at hSw); go_simp; try with_reducible rfl)
            simp only [Act.put, List.getElem_toArray, List.getElem_cons_succ, List.getElem_cons_zero, List.setIfInBounds_toArray, List.set_cons_zero, List.set_cons_succ]
            refine wpAnyH_take (i := 16) (v := ?_) rfl (by kernel_rfl) (by kernel_rfl) (by kernel_rfl) (fun _ _ _ h => h) (Or.inl ⟨by kernel_rfl, ?_⟩) (by assumption) ?_
            rotate_left
            · (intro w hSw; (try dsimp only at hSw); go_simp; try with_reducible rfl)
            simp only [Act.put, List.getElem_toArray, List.getElem_cons_succ, List.getElem_cons_zero, List.setIfInBounds_toArray, List.set_cons_zero, List.set_cons_succ]
            refine wpAnyH_take (i := 17) (v := ?_) rfl (by kernel_rfl) (by kernel_rfl) (by kernel_rfl) (fun _ _ _ h => h) (Or.inl ⟨by kernel_rfl, ?_⟩) (by assumption) ?_
            rotate_left
            · (intro w hSw; (try dsimp only at hSw); go_simp; try with_reducible rfl)
            simp only [Act.put, List.getElem_toArray, List.getElem_cons_succ, List.getElem_cons_zero, List.setIfInBounds_toArray, List.set_cons_zero, List.set_cons_succ]
            refine wpAnyH_take (i := 18) (v := ?_) rfl (by kernel_rfl) (by kernel_rfl) (by kernel_rfl) (fun _ _ _ h => h) (Or.inl ⟨by kernel_rfl, ?_⟩) (by assumption) ?_
            rotate_left
            · (intro w hSw; (try dsimp only at hSw); go_simp; try with_reducible rfl)
            simp only [Act.put, List.getElem_toArray, List.getElem_cons_succ, List.getElem_cons_zero, List.setIfInBounds_toArray, List.set_cons_zero, List.set_cons_succ]
            refine wpAnyH_done (by kernel_rfl) ?_ _
            cases cz
            · have HOV : Hid (∀ i, X.getD i 0 ≠ 0 → Z.getD i 0 = X.getD i 0) := fun i => ((F3.out rfl).2 i).1
              clear F3
              go_wp2
              go_loopw [18] (fun i w' => ∃ (p : Nat) (x : Int), p ≤ N ∧ i = .int .i64 x ∧ x = p ∧ Hid (Below W13.heap.size W13 w')) (fun i _ => (N - intOf i).toNat)
              case atStart => exact ⟨0, 0, Nat.zero_le _, rfl, rfl, mkHid (Below.refl _ _)⟩
              case round =>
                obtain ⟨p, x, hp, rfl, hxp, HW⟩ := hrel
                obtain rfl : x = (p : Int) := hxp
                by_cases hlp : p < N
                · have cz := (HX13.out.later HW.out).cell p hlp
                  have cx := (HY13.out.later HW.out).cell p hlp
                  have hlp' : (p : Int) < (N : Int) := by omega
                  have hov := HOV.out p
                  by_cases h0 : X.getD p 0 = 0
                  · rw [h0] at cx
                    clear hov h0
                    generalize Z.getD p 0 = z at *
                    go_wp2_with fail
                    go_quiet (fail)
                    go_wp2
                    go_roundw
                    case rel => exact ⟨p + 1, _, by omega, rfl, by omega, mkHid (below_drewN HW.out nq)⟩
                    case measure => simp [intOf]; omega
                  · have h1 := hov h0
                    rw [h1] at cz
                    clear hov h1
                    generalize X.getD p 0 = z at *
                    have hz1 : (z != 0) = true := by rw [bne_iff_ne]; exact h0
                    have hz2 : (z != z) = false := by simp
                    go_wp2_with fail
                    go_quiet (fail)
                    go_wp2
                    go_roundw
                    case rel => exact ⟨p + 1, _, by omega, rfl, by omega, mkHid (below_drewN HW.out nq)⟩
                    case measure => simp [intOf]; omega
                · have hlp' : ¬ (p : Int) < (N : Int) := by omega
                  go_wp2
                  go_ret
                  exact ⟨rfl, bon HB13.out HW.out⟩
            · clear F3
              go_wp2
              go_loopw [18] (fun i w' => ∃ (x : Int), i = .int .i64 x ∧ x = 0 ∧ Hid (Below W13.heap.size W13 w')) (fun _ _ => 0)
              case atStart => exact ⟨0, rfl, rfl, mkHid (Below.refl _ _)⟩
              case round =>
                obtain ⟨x, rfl, rfl, HW⟩ := hrel
                by_cases hn0 : 0 < N
                · have hlt' : (0 : Int) < (N : Int) := by omega
                  go_wp2
                  go_ret
                  exact ⟨rfl, bon HB13.out HW.out⟩
                · have hlt' : ¬ (0 : Int) < (N : Int) := by omega
                  go_wp2
                  go_ret
                  exact ⟨rfl, bon HB13.out HW.out⟩
          refine AllReadyH.cons rfl (fun K hK => ?_) AllReadyH.nil
          have b0 := bel_alloc V (.cells #[] 3)
          have O3 : Hid ((V.alloc (.cells #[] 3)).ownsRow w6.heap.size 3 1 (.slice (some ⟨V.heap.size, 0, none⟩) 0 0) 0 []) := own_base (World.ownsRow_lit (base := V.heap.size) (size := 1) (e := 3) V #[] 0 (Nat.le_refl _) (by decide) rfl) HWc.out.size
          replace HWc := mkHid (bon HWc.out b0)
          go_simp
          refine hK.out _ _ trivial (fun hHeld => ?_)
          clear hK b0
          generalize V.alloc (.cells #[] 3) = W3 at *
          refine wpAnyH_ready (rs := [0]) (by kernel_rfl) (by simp) ?_
          refine AllReadyH.cons rfl (fun K hK => ?_) AllReadyH.nil
          have b0 := bel_alloc W3 (.cells #[] 35)
          have R0 := mkHid (own_base (nil_own W3) HWc.out.size)
          replace O3 := mkHid (own_keep O3.out b0)
          replace HWc := mkHid (bon HWc.out b0)
          go_simp
          refine hK.out _ _ trivial (fun hHeld => ?_)
          clear hK b0
          generalize W3.alloc (.cells #[] 35) = W0 at *
          refine wpAnyH_ready (rs := [2]) (by kernel_rfl) (by simp) ?_
          refine AllReadyH.cons rfl (fun K hK => ?_) AllReadyH.nil
          obtain ⟨v6, W2, hrun, hr2, hg2⟩ := run_copy_rows R0.out (HLc.out.later (bon HD6.out HWc.out)) (by rw [HNM.out]; omega) HWc.out.size
          rw [HNM.out] at hr2
          have R2 := mkHid hr2
          replace O3 := mkHid (own_grown O3.out hg2 (own_apart O3.out R0.out (by decide)))
          replace HWc := mkHid (Below.trans HWc.out (below_grown hg2 (fun k hk => (own_lt R0.out hk).1) HWc.out.size))
          clear hr2 hg2
          refine step_run (by rfl) _ _ (by rfl) (by rfl) (by rfl) (by rfl) hrun ?_
          refine hK.out _ _ trivial (fun hHeld => ?_)
          clear hK hrun R0
          refine wpAnyH_ready (rs := [9]) (by kernel_rfl) (by simp) ?_
          refine AllReadyH.cons rfl (fun K hK => ?_) AllReadyH.nil
          obtain ⟨v9, W9, hrun, ho9, hg9, -⟩ := run_nums .i64 Try.underlying35 hi0 hz0 hz1 hz2 (n := 0) (m := 0) (c2 := 0) (R := []) O3.out (HT.out.later (bon HB6.out HWc.out)) (Nat.zero_le _) (by omega) (by omega) HWc.out.size (fun _ => rfl)
          rw [List.nil_append, Nat.zero_add] at ho9
          have O9 := mkHid ho9
          replace R2 := mkHid (own_grown R2.out hg9 (own_apart R2.out O3.out (by decide)))
          replace HWc := mkHid (Below.trans HWc.out (below_grown hg9 (fun k hk => (own_lt O3.out hk).1) HWc.out.size))
          clear ho9 hg9
          refine step_run (by rfl) _ _ (by rfl) (by rfl) (by rfl) (by rfl) hrun ?_
          refine hK.out _ _ trivial (fun hHeld => ?_)
          clear hK hrun O3
          refine wpAnyH_ready (rs := [10]) (by kernel_rfl) (by simp) ?_
          refine AllReadyH.cons rfl (fun K hK => ?_) AllReadyH.nil
          obtain ⟨a9, c9, rfl, -⟩ := own_val O9.out
          have b0 := bel_alloc W9 (.cells #[.slice a9 0 c9] 35)
          have N9 := mkHid (one_cell W9 (.slice a9 0 c9) 35)
          replace R2 := mkHid (own_keep R2.out b0)
          replace O9 := mkHid (own_keep O9.out b0)
          replace HWc := mkHid (bon HWc.out b0)
          go_simp
          refine hK.out _ _ trivial (fun hHeld => ?_)
          clear hK b0
          generalize W9.alloc (.cells #[.slice a9 0 c9] 35) = W10 at *
          refine wpAnyH_ready (rs := [11]) (by kernel_rfl) (by simp) ?_
          refine AllReadyH.cons rfl (fun K hK => ?_) AllReadyH.nil
          obtain ⟨v11, W11, hrun, hr11, hg11⟩ := run_one_row (u := .slice a9 0 c9) R2.out rfl N9.out (by omega) HWc.out.size
          have R11 := mkHid hr11
          replace O9 := mkHid (own_grown O9.out hg11 (own_apart O9.out R2.out (by decide)))
          replace HWc := mkHid (Below.trans HWc.out (below_grown hg11 (fun k hk => (own_lt R2.out hk).1) HWc.out.size))
          clear hr11 hg11
          refine step_run (by rfl) _ _ (by rfl) (by rfl) (by rfl) (by rfl) hrun ?_
          refine hK.out _ _ trivial (fun hHeld => ?_)
          clear hK hrun R2 N9
          refine wpAnyH_ready (rs := [13]) (by kernel_rfl) (by simp) ?_
          refine AllReadyH.cons rfl (fun K hK => ?_) AllReadyH.nil
          have hO9 : W11.ownsRow w6.heap.size 3 1 (.slice a9 0 c9) (([] : List Int).take 20).length (nums .i64 (([] : List Int).take 20)) := by
            have := O9.out
            exact this
          have hR11 := R11.out
          rw [← HNM.out] at hR11
          have HC13 := mkHid (CR.build HLc.out (bon HD6.out HWc.out) hR11 hO9)
          clear hO9 hR11 R11 O9
          go_simp
          go_wp2_with (go_at_call 14; ((with_reducible refine (U3.out _ _ _ HC13.out.rr (HA2.out.later (bon HD6.out HWc.out)).rk).mono ?_)); rintro e W13 ⟨g13, N13, rfl, hN13, hg13, ha13, hb13⟩; obtain rfl : N = N13 := HN2.out.trans hN13.symm; clear hN13; have HX13 := mkHid ha13; have HY13 := mkHid (HX6.out.later (bon HWc.out hb13)); have HB13 := mkHid (bon (bon HB6.out HWc.out) hb13); clear hb13 ha13)
          refine hK.out _ _ trivial (fun hHeld => ?_)
          clear hK HC13
          refine wpAnyH_take (i := 14) (v := ?_) rfl (by kernel_rfl) (by kernel_rfl) (by kernel_rfl) (fun _ _ _ h => h) (Or.inl ⟨by kernel_rfl, ?_⟩) (by assumption) ?_
          rotate_left
          · (intro w hSw; (try dsimp only at hSw); go_simp; try with_reducible rfl)
          simp only [Act.put, List.getElem_toArray, List.getElem_cons_succ, List.getElem_cons_zero, List.setIfInBounds_toArray, List.set_cons_zero, List.set_cons_succ]
          refine wpAnyH_take (i := 15) (v := ?_) rfl (by kernel_rfl) (by kernel_rfl) (by kernel_rfl) (fun _ _ _ h => h) (Or.inl ⟨by kernel_rfl, ?_⟩) (by assumption) ?_
          rotate_left
          · (intro w hSw; (try dsimp only at hSw); go_simp; try with_reducible rfl)
          simp only [Act.put, List.getElem_toArray, List.getElem_cons_succ, List.getElem_cons_zero, List.setIfInBounds_toArray, List.set_cons_zero, List.set_cons_succ]
          refine wpAnyH_take (i := 16) (v := ?_) rfl (by kernel_rfl) (by kernel_rfl) (by kernel_rfl) (fun _ _ _ h => h) (Or.inl ⟨by kernel_rfl, ?_⟩) (by assumption) ?_
          rotate_left
          · (intro w hSw; (try dsimp only at hSw); go_simp; try with_reducible rfl)
          simp only [Act.put, List.getElem_toArray, List.getElem_cons_succ, List.getElem_cons_zero, List.setIfInBounds_toArray, List.set_cons_zero, List.set_cons_succ]
          refine wpAnyH_take (i := 17) (v := ?_) rfl (by kernel_rfl) (by kernel_rfl) (by kernel_rfl) (fun _ _ _ h => h) (Or.inl ⟨by kernel_rfl, ?_⟩) (by assumption) ?_
          rotate_left
          · (intro w hSw; (try dsimp only at hSw); go_simp; try with_reducible rfl)
          simp only [Act.put, List.getElem_toArray, List.getElem_cons_succ, List.getElem_cons_zero, List.setIfInBounds_toArray, List.set_cons_zero, List.set_cons_succ]
          refine wpAnyH_take (i := 18) (v := ?_) rfl (by kernel_rfl) (by kernel_rfl) (by kernel_rfl) (fun _ _ _ h => h) (Or.inl ⟨by kernel_rfl, ?_⟩) (by assumption) ?_
          rotate_left
          · (intro w hSw; (try dsimp only at hSw); go_simp; try with_reducible rfl)
          simp only [Act.put, List.getElem_toArray, List.getElem_cons_succ, List.getElem_cons_zero, List.setIfInBounds_toArray, List.set_cons_zero, List.set_cons_succ]
          refine wpAnyH_done (by kernel_rfl) ?_ _
          cases cz
          · have HOV : Hid (∀ i, X.getD i 0 ≠ 0 → Z.getD i 0 = X.getD i 0) := fun i => ((F3.out rfl).2 i).1
            clear F3
            go_wp2
            go_loopw [18] (fun i w' => ∃ (p : Nat) (x : Int), p ≤ N ∧ i = .int .i64 x ∧ x = p ∧ Hid (Below W13.heap.size W13 w')) (fun i _ => (N - intOf i).toNat)
            case atStart => exact ⟨0, 0, Nat.zero_le _, rfl, rfl, mkHid (Below.refl _ _)⟩
            case round =>
              obtain ⟨p, x, hp, rfl, hxp, HW⟩ := hrel
              obtain rfl : x = (p : Int) := hxp
              by_cases hlp : p < N
              · have cz := (HX13.out.later HW.out).cell p hlp
                have cx := (HY13.out.later HW.out).cell p hlp
                have hlp' : (p : Int) < (N : Int) := by omega
                have hov := HOV.out p
                by_cases h0 : X.getD p 0 = 0
                · rw [h0] at cx
                  clear hov h0
                  generalize Z.getD p 0 = z at *
                  go_wp2_with fail
                  go_quiet (fail)
                  go_wp2
                  go_roundw
                  case rel => exact ⟨p + 1, _, by omega, rfl, by omega, mkHid (below_drewN HW.out nq)⟩
                  case measure => simp [intOf]; omega
                · have h1 := hov h0
                  rw [h1] at cz
                  clear hov h1
                  generalize X.getD p 0 = z at *
                  have hz1 : (z != 0) = true := by rw [bne_iff_ne]; exact h0
                  have hz2 : (z != z) = false := by simp
                  go_wp2_with fail
                  go_quiet (fail)
                  go_wp2
                  go_roundw
                  case rel => exact ⟨p + 1, _, by omega, rfl, by omega, mkHid (below_drewN HW.out nq)⟩
                  case measure => simp [intOf]; omega
              · have hlp' : ¬ (p : Int) < (N : Int) := by omega
                go_wp2
                go_ret
                exact ⟨rfl, bon HB13.out HW.out⟩
          · clear F3
            go_wp2
            go_loopw [18] (fun i w' => ∃ (x : Int), i = .int .i64 x ∧ x = 0 ∧ Hid (Below W13.heap.size W13 w')) (fun _ _ => 0)
            case atStart => exact ⟨0, rfl, rfl, mkHid (Below.refl _ _)⟩
            case round =>
              obtain ⟨x, rfl, rfl, HW⟩ := hrel
              by_cases hn0 : 0 < N
              · have hlt' : (0 : Int) < (N : Int) := by omega
                go_wp2
                go_ret
                exact ⟨rfl, bon HB13.out HW.out⟩
              · have hlt' : ¬ (0 : Int) < (N : Int) := by omega
                go_wp2
                go_ret
                exact ⟨rfl, bon HB13.out HW.out⟩
        | some at0 =>
          by_cases h20 : D.length ≤ 20
          · have HL : Hid ((D.take 20).length = D.length) := by rw [List.take_of_length_le h20]; exact mkHid rfl
            have HTK : Hid (D.take D.length = D.take 20) := by rw [List.take_of_length_le (Nat.le_refl _), List.take_of_length_le h20]; exact mkHid rfl
            go_wp2_with fail
            (try dsimp only [List.append])
            refine wp_region_held_drew (S := fun _ => True) (by kernel_rfl) trivial (fun hHeld => ?_)
            have HWc := mkHid (bon HW.out (bdrew (Below.refl wr.heap.size wr)))
            generalize wr.drew = V at *
            have h202 : ¬ (20 : Int) < (D.length : Int) := by omega
            have h203 : (D.length : Int) ≤ (ct : Int) := by omega
            have h204 : (0 : Int) ≤ (D.length : Int) := by omega
            refine wpAnyH_take (i := 1) (v := ?_) rfl (by kernel_rfl) (by kernel_rfl) (by kernel_rfl) (fun _ _ _ h => h) (Or.inl ⟨by kernel_rfl, ?_⟩) (by assumption) ?_
            rotate_left
            · (intro w hSw; (try dsimp only at hSw); go_simp; try with_reducible rfl)
            simp only [Act.put, List.getElem_toArray, List.getElem_cons_succ, List.getElem_cons_zero, List.setIfInBounds_toArray, List.set_cons_zero, List.set_cons_succ]
            refine wpAnyH_take (i := 4) (v := ?_) rfl (by kernel_rfl) (by kernel_rfl) (by kernel_rfl) (fun _ _ _ h => h) (Or.inl ⟨by kernel_rfl, ?_⟩) (by assumption) ?_
            rotate_left
            · (intro w hSw; (try dsimp only at hSw); go_simp; try with_reducible rfl)
            simp only [Act.put, List.getElem_toArray, List.getElem_cons_succ, List.getElem_cons_zero, List.setIfInBounds_toArray, List.set_cons_zero, List.set_cons_succ]
            refine wpAnyH_take (i := 5) (v := ?_) rfl (by kernel_rfl) (by kernel_rfl) (by kernel_rfl) (fun _ _ _ h => h) (Or.inl ⟨by kernel_rfl, ?_⟩) (by assumption) ?_
            rotate_left
            · (intro w hSw; (try dsimp only at hSw); go_simp; try with_reducible rfl)
            simp only [Act.put, List.getElem_toArray, List.getElem_cons_succ, List.getElem_cons_zero, List.setIfInBounds_toArray, List.set_cons_zero, List.set_cons_succ]
            refine wpAnyH_take (i := 6) (v := ?_) rfl (by kernel_rfl) (by kernel_rfl) (by kernel_rfl) (fun _ _ _ h => h) (Or.inl ⟨by kernel_rfl, ?_⟩) (by assumption) ?_
            rotate_left
            · (intro w hSw; (try dsimp only at hSw); go_simp; try with_reducible rfl)
            simp only [Act.put, List.getElem_toArray, List.getElem_cons_succ, List.getElem_cons_zero, List.setIfInBounds_toArray, List.set_cons_zero, List.set_cons_succ]
            refine wpAnyH_take (i := 7) (v := ?_) rfl (by kernel_rfl) (by kernel_rfl) (by kernel_rfl) (fun _ _ _ h => h) (Or.inl ⟨by kernel_rfl, ?_⟩) (by assumption) ?_
            rotate_left
            · (intro w hSw; (try dsimp only at hSw); go_simp; try with_reducible rfl)
            simp only [Act.put, List.getElem_toArray, List.getElem_cons_succ, List.getElem_cons_zero, List.setIfInBounds_toArray, List.set_cons_zero, List.set_cons_succ]
            refine wpAnyH_take (i := 8) (v := ?_) rfl (by kernel_rfl) (by kernel_rfl) (by kernel_rfl) (fun _ _ _ h => h) (Or.inl ⟨by kernel_rfl, ?_⟩) (by assumption) ?_
            rotate_left
            · (intro w hSw; (try dsimp only at hSw); go_simp; try with_reducible rfl)
            simp only [Act.put, List.getElem_toArray, List.getElem_cons_succ, List.getElem_cons_zero, List.setIfInBounds_toArray, List.set_cons_zero, List.set_cons_succ]
            refine wpAnyH_take (i := 12) (v := ?_) rfl (by kernel_rfl) (by kernel_rfl) (by kernel_rfl) (fun _ _ _ h => h) (Or.inl ⟨by kernel_rfl, ?_⟩) (by assumption) ?_
            rotate_left
            · (intro w hSw; (try dsimp only at hSw); go_simp; try with_reducible rfl)
            simp only [Act.put, List.getElem_toArray, List.getElem_cons_succ, List.getElem_cons_zero, List.setIfInBounds_toArray, List.set_cons_zero, List.set_cons_succ]
            refine wpAnyH_ready (rs := [0, 3]) (by kernel_rfl) (by simp) ?_
            refine AllReadyH.cons rfl (fun K hK => ?_) ?_
            · have b0 := bel_alloc V (.cells #[] 35)
              have R0 := mkHid (own_base (nil_own V) HWc.out.size)
              replace HWc := mkHid (bon HWc.out b0)
              go_simp
              refine hK.out _ _ trivial (fun hHeld => ?_)
              clear hK b0
              generalize V.alloc (.cells #[] 35) = W0 at *
              refine wpAnyH_ready (rs := [2, 3]) (by kernel_rfl) (by simp) ?_
              refine AllReadyH.cons rfl (fun K hK => ?_) ?_
              · obtain ⟨v6, W2, hrun, hr2, hg2⟩ := run_copy_rows R0.out (HLc.out.later (bon HD6.out HWc.out)) (by rw [HNM.out]; omega) HWc.out.size
                rw [HNM.out] at hr2
                have R2 := mkHid hr2
                replace HWc := mkHid (Below.trans HWc.out (below_grown hg2 (fun k hk => (own_lt R0.out hk).1) HWc.out.size))
                clear hr2 hg2
                refine step_run (by rfl) _ _ (by rfl) (by rfl) (by rfl) (by rfl) hrun ?_
                refine hK.out _ _ trivial (fun hHeld => ?_)
                clear hK hrun R0
                refine wpAnyH_ready (rs := [3]) (by kernel_rfl) (by simp) ?_
                refine AllReadyH.cons rfl (fun K hK => ?_) AllReadyH.nil
                have b0 := bel_alloc W2 (.cells #[] 3)
                have O3 : Hid ((W2.alloc (.cells #[] 3)).ownsRow w6.heap.size 3 1 (.slice (some ⟨W2.heap.size, 0, none⟩) 0 0) 0 []) := own_base (World.ownsRow_lit (base := W2.heap.size) (size := 1) (e := 3) W2 #[] 0 (Nat.le_refl _) (by decide) rfl) HWc.out.size
                replace R2 := mkHid (own_keep R2.out b0)
                replace HWc := mkHid (bon HWc.out b0)
                go_simp
                refine hK.out _ _ trivial (fun hHeld => ?_)
                clear hK b0
                generalize W2.alloc (.cells #[] 3) = W3 at *
                refine wpAnyH_ready (rs := [9]) (by kernel_rfl) (by simp) ?_
                refine AllReadyH.cons rfl (fun K hK => ?_) AllReadyH.nil
                obtain ⟨v9, W9, hrun, ho9, hg9, -⟩ := run_nums .i64 Try.underlying35 hi0 hz0 hz1 hz2 (n := 0) (m := D.length) (c2 := ct) (R := D) O3.out (HT.out.later (bon HB6.out HWc.out)) (Nat.le_refl _) (by omega) (by omega) HWc.out.size (fun h => absurd h (by simp))
                rw [List.nil_append, Nat.zero_add] at ho9
                have O9 := mkHid ho9
                replace R2 := mkHid (own_grown R2.out hg9 (own_apart R2.out O3.out (by decide)))
                replace HWc := mkHid (Below.trans HWc.out (below_grown hg9 (fun k hk => (own_lt O3.out hk).1) HWc.out.size))
                clear ho9 hg9
                refine step_run (by rfl) _ _ (by rfl) (by rfl) (by rfl) (by rfl) hrun ?_
                refine hK.out _ _ trivial (fun hHeld => ?_)
                clear hK hrun O3
                refine wpAnyH_ready (rs := [10]) (by kernel_rfl) (by simp) ?_
                refine AllReadyH.cons rfl (fun K hK => ?_) AllReadyH.nil
                obtain ⟨a9, c9, rfl, -⟩ := own_val O9.out
                have b0 := bel_alloc W9 (.cells #[.slice a9 D.length c9] 35)
                have N9 := mkHid (one_cell W9 (.slice a9 D.length c9) 35)
                replace R2 := mkHid (own_keep R2.out b0)
                replace O9 := mkHid (own_keep O9.out b0)
                replace HWc := mkHid (bon HWc.out b0)
                go_simp
                refine hK.out _ _ trivial (fun hHeld => ?_)
                clear hK b0
                generalize W9.alloc (.cells #[.slice a9 D.length c9] 35) = W10 at *
                refine wpAnyH_ready (rs := [11]) (by kernel_rfl) (by simp) ?_
                refine AllReadyH.cons rfl (fun K hK => ?_) AllReadyH.nil
                obtain ⟨v11, W11, hrun, hr11, hg11⟩ := run_one_row (u := .slice a9 D.length c9) R2.out rfl N9.out (by omega) HWc.out.size
                have R11 := mkHid hr11
                replace O9 := mkHid (own_grown O9.out hg11 (own_apart O9.out R2.out (by decide)))
                replace HWc := mkHid (Below.trans HWc.out (below_grown hg11 (fun k hk => (own_lt R2.out hk).1) HWc.out.size))
                clear hr11 hg11
                refine step_run (by rfl) _ _ (by rfl) (by rfl) (by rfl) (by rfl) hrun ?_
                refine hK.out _ _ trivial (fun hHeld => ?_)
                clear hK hrun R2 N9
                refine wpAnyH_ready (rs := [13]) (by kernel_rfl) (by simp) ?_
                refine AllReadyH.cons rfl (fun K hK => ?_) AllReadyH.nil
                have hO9 : W11.ownsRow w6.heap.size 3 1 (.slice a9 D.length c9) (D.take 20).length (nums .i64 (D.take 20)) := by
                  have := O9.out
                  rw [HL.out, ← HTK.out]; exact this
                have hR11 := R11.out
                rw [← HNM.out] at hR11
                have HC13 := mkHid (CR.build HLc.out (bon HD6.out HWc.out) hR11 hO9)
                clear hO9 hR11 R11 O9
                go_simp
                go_wp2_with (go_at_call 14; ((with_reducible refine (U3.out _ _ _ HC13.out.rr (HA2.out.later (bon HD6.out HWc.out)).rk).mono ?_)); rintro e W13 ⟨g13, N13, rfl, hN13, hg13, ha13, hb13⟩; obtain rfl : N = N13 := HN2.out.trans hN13.symm; clear hN13; have HX13 := mkHid ha13; have HY13 := mkHid (HX6.out.later (bon HWc.out hb13)); have HB13 := mkHid (bon (bon HB6.out HWc.out) hb13); clear hb13 ha13)
                refine hK.out _ _ trivial (fun hHeld => ?_)
                clear hK HC13
                refine wpAnyH_take (i := 14) (v := ?_) rfl (by kernel_rfl) (by kernel_rfl) (by kernel_rfl) (fun _ _ _ h => h) (Or.inl ⟨by kernel_rfl, ?_⟩) (by assumption) ?_
                rotate_left
                · (intro w hSw; (try dsimp only at hSw); go_simp; try with_reducible rfl)
                simp only [Act.put, List.getElem_toArray, List.getElem_cons_succ, List.getElem_cons_zero, List.setIfInBounds_toArray, List.set_cons_zero, List.set_cons_succ]
                refine wpAnyH_take (i := 15) (v := ?_) rfl (by kernel_rfl) (by kernel_rfl) (by kernel_rfl) (fun _ _ _ h => h) (Or.inl ⟨by kernel_rfl, ?_⟩) (by assumption) ?_
                rotate_left
                · (intro w hSw; (try dsimp only at hSw); go_simp; try with_reducible rfl)
                simp only [Act.put, List.getElem_toArray, List.getElem_cons_succ, List.getElem_cons_zero, List.setIfInBounds_toArray, List.set_cons_zero, List.set_cons_succ]
                refine wpAnyH_take (i := 16) (v := ?_) rfl (by kernel_rfl) (by kernel_rfl) (by kernel_rfl) (fun _ _ _ h => h) (Or.inl ⟨by kernel_rfl, ?_⟩) (by assumption) ?_
                rotate_left
                · (intro w hSw; (try dsimp only at hSw); go_simp; try with_reducible rfl)
                simp only [Act.put, List.getElem_toArray, List.getElem_cons_succ, List.getElem_cons_zero, List.setIfInBounds_toArray, List.set_cons_zero, List.set_cons_succ]
                refine wpAnyH_take (i := 17) (v := ?_) rfl (by kernel_rfl) (by kernel_rfl) (by kernel_rfl) (fun _ _ _ h => h) (Or.inl ⟨by kernel_rfl, ?_⟩) (by assumption) ?_
                rotate_left
                · (intro w hSw; (try dsimp only at hSw); go_simp; try with_reducible rfl)
                simp only [Act.put, List.getElem_toArray, List.getElem_cons_succ, List.getElem_cons_zero, List.setIfInBounds_toArray, List.set_cons_zero, List.set_cons_succ]
                refine wpAnyH_take (i := 18) (v := ?_) rfl (by kernel_rfl) (by kernel_rfl) (by kernel_rfl) (fun _ _ _ h => h) (Or.inl ⟨by kernel_rfl, ?_⟩) (by assumption) ?_
                rotate_left
                · (intro w hSw; (try dsimp only at hSw); go_simp; try with_reducible rfl)
                simp only [Act.put, List.getElem_toArray, List.getElem_cons_succ, List.getElem_cons_zero, List.setIfInBounds_toArray, List.set_cons_zero, List.set_cons_succ]
                refine wpAnyH_done (by kernel_rfl) ?_ _
                cases cz
                · have HOV : Hid (∀ i, X.getD i 0 ≠ 0 → Z.getD i 0 = X.getD i 0) := fun i => ((F3.out rfl).2 i).1
                  clear F3
                  go_wp2
                  go_loopw [18] (fun i w' => ∃ (p : Nat) (x : Int), p ≤ N ∧ i = .int .i64 x ∧ x = p ∧ Hid (Below W13.heap.size W13 w')) (fun i _ => (N - intOf i).toNat)
                  case atStart => exact ⟨0, 0, Nat.zero_le _, rfl, rfl, mkHid (Below.refl _ _)⟩
                  case round =>
                    obtain ⟨p, x, hp, rfl, hxp, HW⟩ := hrel
                    obtain rfl : x = (p : Int) := hxp
                    by_cases hlp : p < N
                    · have cz := (HX13.out.later HW.out).cell p hlp
                      have cx := (HY13.out.later HW.out).cell p hlp
                      have hlp' : (p : Int) < (N : Int) := by omega
                      have hov := HOV.out p
                      by_cases h0 : X.getD p 0 = 0
                      · rw [h0] at cx
                        clear hov h0
                        generalize Z.getD p 0 = z at *
                        go_wp2_with fail
                        go_quiet (fail)
                        go_wp2
                        go_roundw
                        case rel => exact ⟨p + 1, _, by omega, rfl, by omega, mkHid (below_drewN HW.out nq)⟩
                        case measure => simp [intOf]; omega
                      · have h1 := hov h0
                        rw [h1] at cz
                        clear hov h1
                        generalize X.getD p 0 = z at *
                        have hz1 : (z != 0) = true := by rw [bne_iff_ne]; exact h0
                        have hz2 : (z != z) = false := by simp
                        go_wp2_with fail
                        go_quiet (fail)
                        go_wp2
                        go_roundw
                        case rel => exact ⟨p + 1, _, by omega, rfl, by omega, mkHid (below_drewN HW.out nq)⟩
                        case measure => simp [intOf]; omega
                    · have hlp' : ¬ (p : Int) < (N : Int) := by omega
                      go_wp2
                      go_ret
                      exact ⟨rfl, bon HB13.out HW.out⟩
                · clear F3
                  go_wp2
                  go_loopw [18] (fun i w' => ∃ (x : Int), i = .int .i64 x ∧ x = 0 ∧ Hid (Below W13.heap.size W13 w')) (fun _ _ => 0)
                  case atStart => exact ⟨0, rfl, rfl, mkHid (Below.refl _ _)⟩
                  case round =>
                    obtain ⟨x, rfl, rfl, HW⟩ := hrel
                    by_cases hn0 : 0 < N
                    · have hlt' : (0 : Int) < (N : Int) := by omega
                      go_wp2
                      go_ret
                      exact ⟨rfl, bon HB13.out HW.out⟩
                    · have hlt' : ¬ (0 : Int) < (N : Int) := by omega
                      go_wp2
                      go_ret
                      exact ⟨rfl, bon HB13.out HW.out⟩
              refine AllReadyH.cons rfl (fun K hK => ?_) AllReadyH.nil
              have b0 := bel_alloc W0 (.cells #[] 3)
              have O3 : Hid ((W0.alloc (.cells #[] 3)).ownsRow w6.heap.size 3 1 (.slice (some ⟨W0.heap.size, 0, none⟩) 0 0) 0 []) := own_base (World.ownsRow_lit (base := W0.heap.size) (size := 1) (e := 3) W0 #[] 0 (Nat.le_refl _) (by decide) rfl) HWc.out.size
              replace R0 := mkHid (own_keep R0.out b0)
              replace HWc := mkHid (bon HWc.out b0)
              go_simp
              refine hK.out _ _ trivial (fun hHeld => ?_)
              clear hK b0
              generalize W0.alloc (.cells #[] 3) = W3 at *
              refine wpAnyH_ready (rs := [2]) (by kernel_rfl) (by simp) ?_
              refine AllReadyH.cons rfl (fun K hK => ?_) AllReadyH.nil
              obtain ⟨v6, W2, hrun, hr2, hg2⟩ := run_copy_rows R0.out (HLc.out.later (bon HD6.out HWc.out)) (by rw [HNM.out]; omega) HWc.out.size
              rw [HNM.out] at hr2
              have R2 := mkHid hr2
              replace O3 := mkHid (own_grown O3.out hg2 (own_apart O3.out R0.out (by decide)))
              replace HWc := mkHid (Below.trans HWc.out (below_grown hg2 (fun k hk => (own_lt R0.out hk).1) HWc.out.size))
              clear hr2 hg2
              refine step_run (by rfl) _ _ (by rfl) (by rfl) (by rfl) (by rfl) hrun ?_
              refine hK.out _ _ trivial (fun hHeld => ?_)
              clear hK hrun R0
              refine wpAnyH_ready (rs := [9]) (by kernel_rfl) (by simp) ?_
              refine AllReadyH.cons rfl (fun K hK => ?_) AllReadyH.nil
              obtain ⟨v9, W9, hrun, ho9, hg9, -⟩ := run_nums .i64 Try.underlying35 hi0 hz0 hz1 hz2 (n := 0) (m := D.length) (c2 := ct) (R := D) O3.out (HT.out.later (bon HB6.out HWc.out)) (Nat.le_refl _) (by omega) (by omega) HWc.out.size (fun h => absurd h (by simp))
              rw [List.nil_append, Nat.zero_add] at ho9
              have O9 := mkHid ho9
              replace R2 := mkHid (own_grown R2.out hg9 (own_apart R2.out O3.out (by decide)))
              replace HWc := mkHid (Below.trans HWc.out (below_grown hg9 (fun k hk => (own_lt O3.out hk).1) HWc.out.size))
              clear ho9 hg9
              refine step_run (by rfl) _ _ (by rfl) (by rfl) (by rfl) (by rfl) hrun ?_
              refine hK.out _ _ trivial (fun hHeld => ?_)
              clear hK hrun O3
              refine wpAnyH_ready (rs := [10]) (by kernel_rfl) (by simp) ?_
              refine AllReadyH.cons rfl (fun K hK => ?_) AllReadyH.nil
              obtain ⟨a9, c9, rfl, -⟩ := own_val O9.out
              have b0 := bel_alloc W9 (.cells #[.slice a9 D.length c9] 35)
              have N9 := mkHid (one_cell W9 (.slice a9 D.length c9) 35)
              replace R2 := mkHid (own_keep R2.out b0)
              replace O9 := mkHid (own_keep O9.out b0)
              replace HWc := mkHid (bon HWc.out b0)
              go_simp
              refine hK.out _ _ trivial (fun hHeld => ?_)
              clear hK b0
              generalize W9.alloc (.cells #[.slice a9 D.length c9] 35) = W10 at *
              refine wpAnyH_ready (rs := [11]) (by kernel_rfl) (by simp) ?_
              refine AllReadyH.cons rfl (fun K hK => ?_) AllReadyH.nil
              obtain ⟨v11, W11, hrun, hr11, hg11⟩ := run_one_row (u := .slice a9 D.length c9) R2.out rfl N9.out (by omega) HWc.out.size
              have R11 := mkHid hr11
              replace O9 := mkHid (own_grown O9.out hg11 (own_apart O9.out R2.out (by decide)))
              replace HWc := mkHid (Below.trans HWc.out (below_grown hg11 (fun k hk => (own_lt R2.out hk).1) HWc.out.size))
              clear hr11 hg11
              refine step_run (by rfl) _ _ (by rfl) (by rfl) (by rfl) (by rfl) hrun ?_
              refine hK.out _ _ trivial (fun hHeld => ?_)
              clear hK hrun R2 N9
              refine wpAnyH_ready (rs := [13]) (by kernel_rfl) (by simp) ?_
              refine AllReadyH.cons rfl (fun K hK => ?_) AllReadyH.nil
              have hO9 : W11.ownsRow w6.heap.size 3 1 (.slice a9 D.length c9) (D.take 20).length (nums .i64 (D.take 20)) := by
                have := O9.out
                rw [HL.out, ← HTK.out]; exact this
              have hR11 := R11.out
              rw [← HNM.out] at hR11
              have HC13 := mkHid (CR.build HLc.out (bon HD6.out HWc.out) hR11 hO9)
              clear hO9 hR11 R11 O9
              go_simp
              go_wp2_with (go_at_call 14; ((with_reducible refine (U3.out _ _ _ HC13.out.rr (HA2.out.later (bon HD6.out HWc.out)).rk).mono ?_)); rintro e W13 ⟨g13, N13, rfl, hN13, hg13, ha13, hb13⟩; obtain rfl : N = N13 := HN2.out.trans hN13.symm; clear hN13; have HX13 := mkHid ha13; have HY13 := mkHid (HX6.out.later (bon HWc.out hb13)); have HB13 := mkHid (bon (bon HB6.out HWc.out) hb13); clear hb13 ha13)
              refine hK.out _ _ trivial (fun hHeld => ?_)
              clear hK HC13
              refine wpAnyH_take (i := 14) (v := ?_) rfl (by kernel_rfl) (by kernel_rfl) (by kernel_rfl) (fun _ _ _ h => h) (Or.inl ⟨by kernel_rfl, ?_⟩) (by assumption) ?_
              rotate_left
              · (intro w hSw; (try dsimp only at hSw); go_simp; try with_reducible rfl)
              simp only [Act.put, List.getElem_toArray, List.getElem_cons_succ, List.getElem_cons_zero, List.setIfInBounds_toArray, List.set_cons_zero, List.set_cons_succ]
              refine wpAnyH_take (i := 15) (v := ?_) rfl (by kernel_rfl) (by kernel_rfl) (by kernel_rfl) (fun _ _ _ h => h) (Or.inl ⟨by kernel_rfl, ?_⟩) (by assumption) ?_
              rotate_left
              · (intro w hSw; (try dsimp only at hSw); go_simp; try with_reducible rfl)
              simp only [Act.put, List.getElem_toArray, List.getElem_cons_succ, List.getElem_cons_zero, List.setIfInBounds_toArray, List.set_cons_zero, List.set_cons_succ]
              refine wpAnyH_take (i := 16) (v := ?_) rfl (by kernel_rfl) (by kernel_rfl) (by kernel_rfl) (fun _ _ _ h => h) (Or.inl ⟨by kernel_rfl, ?_⟩) (by assumption) ?_
              rotate_left
              · (intro w hSw; (try dsimp only at hSw); go_simp; try with_reducible rfl)
              simp only [Act.put, List.getElem_toArray, List.getElem_cons_succ, List.getElem_cons_zero, List.setIfInBounds_toArray, List.set_cons_zero, List.set_cons_succ]
              refine wpAnyH_take (i := 17) (v := ?_) rfl (by kernel_rfl) (by kernel_rfl) (by kernel_rfl) (fun _ _ _ h => h) (Or.inl ⟨by kernel_rfl, ?_⟩) (by assumption) ?_
              rotate_left
              · (intro w hSw; (try dsimp only at hSw); go_simp; try with_reducible rfl)
              simp only [Act.put, List.getElem_toArray, List.getElem_cons_succ, List.getElem_cons_zero, List.setIfInBounds_toArray, List.set_cons_zero, List.set_cons_succ]
              refine wpAnyH_take (i := 18) (v := ?_) rfl (by kernel_rfl) (by kernel_rfl) (by kernel_rfl) (fun _ _ _ h => h) (Or.inl ⟨by kernel_rfl, ?_⟩) (by assumption) ?_
              rotate_left
              · (intro w hSw; (try dsimp only at hSw); go_simp; try with_reducible rfl)
              simp only [Act.put, List.getElem_toArray, List.getElem_cons_succ, List.getElem_cons_zero, List.setIfInBounds_toArray, List.set_cons_zero, List.set_cons_succ]
              refine wpAnyH_done (by kernel_rfl) ?_ _
              cases cz
              · have HOV : Hid (∀ i, X.getD i 0 ≠ 0 → Z.getD i 0 = X.getD i 0) := fun i => ((F3.out rfl).2 i).1
                clear F3
                go_wp2
                go_loopw [18] (fun i w' => ∃ (p : Nat) (x : Int), p ≤ N ∧ i = .int .i64 x ∧ x = p ∧ Hid (Below W13.heap.size W13 w')) (fun i _ => (N - intOf i).toNat)
                case atStart => exact ⟨0, 0, Nat.zero_le _, rfl, rfl, mkHid (Below.refl _ _)⟩
                case round =>
                  obtain ⟨p, x, hp, rfl, hxp, HW⟩ := hrel
                  obtain rfl : x = (p : Int) := hxp
                  by_cases hlp : p < N
                  · have cz := (HX13.out.later HW.out).cell p hlp
                    have cx := (HY13.out.later HW.out).cell p hlp
                    have hlp' : (p : Int) < (N : Int) := by omega
                    have hov := HOV.out p
                    by_cases h0 : X.getD p 0 = 0
                    · rw [h0] at cx
                      clear hov h0
                      generalize Z.getD p 0 = z at *
                      go_wp2_with fail
                      go_quiet (fail)
                      go_wp2
                      go_roundw
                      case rel => exact ⟨p + 1, _, by omega, rfl, by omega, mkHid (below_drewN HW.out nq)⟩
                      case measure => simp [intOf]; omega
                    · have h1 := hov h0
                      rw [h1] at cz
                      clear hov h1
                      generalize X.getD p 0 = z at *
                      have hz1 : (z != 0) = true := by rw [bne_iff_ne]; exact h0
                      have hz2 : (z != z) = false := by simp
                      go_wp2_with fail
                      go_quiet (fail)
                      go_wp2
                      go_roundw
                      case rel => exact ⟨p + 1, _, by omega, rfl, by omega, mkHid (below_drewN HW.out nq)⟩
                      case measure => simp [intOf]; omega
                  · have hlp' : ¬ (p : Int) < (N : Int) := by omega
                    go_wp2
                    go_ret
                    exact ⟨rfl, bon HB13.out HW.out⟩
              · clear F3
                go_wp2
                go_loopw [18] (fun i w' => ∃ (x : Int), i = .int .i64 x ∧ x = 0 ∧ Hid (Below W13.heap.size W13 w')) (fun _ _ => 0)
                case atStart => exact ⟨0, rfl, rfl, mkHid (Below.refl _ _)⟩
                case round =>
                  obtain ⟨x, rfl, rfl, HW⟩ := hrel
                  by_cases hn0 : 0 < N
                  · have hlt' : (0 : Int) < (N : Int) := by omega
                    go_wp2
                    go_ret
                    exact ⟨rfl, bon HB13.out HW.out⟩
                  · have hlt' : ¬ (0 : Int) < (N : Int) := by omega
                    go_wp2
                    go_ret
                    exact ⟨rfl, bon HB13.out HW.out⟩
            refine AllReadyH.cons rfl (fun K hK => ?_) AllReadyH.nil
            have b0 := bel_alloc V (.cells #[] 3)
            have O3 : Hid ((V.alloc (.cells #[] 3)).ownsRow w6.heap.size 3 1 (.slice (some ⟨V.heap.size, 0, none⟩) 0 0) 0 []) := own_base (World.ownsRow_lit (base := V.heap.size) (size := 1) (e := 3) V #[] 0 (Nat.le_refl _) (by decide) rfl) HWc.out.size
            replace HWc := mkHid (bon HWc.out b0)
            go_simp
            refine hK.out _ _ trivial (fun hHeld => ?_)
            clear hK b0
            generalize V.alloc (.cells #[] 3) = W3 at *
            refine wpAnyH_ready (rs := [0]) (by kernel_rfl) (by simp) ?_
            refine AllReadyH.cons rfl (fun K hK => ?_) AllReadyH.nil
            have b0 := bel_alloc W3 (.cells #[] 35)
            have R0 := mkHid (own_base (nil_own W3) HWc.out.size)
            replace O3 := mkHid (own_keep O3.out b0)
            replace HWc := mkHid (bon HWc.out b0)
            go_simp
            refine hK.out _ _ trivial (fun hHeld => ?_)
            clear hK b0
            generalize W3.alloc (.cells #[] 35) = W0 at *
            refine wpAnyH_ready (rs := [2]) (by kernel_rfl) (by simp) ?_
            refine AllReadyH.cons rfl (fun K hK => ?_) AllReadyH.nil
            obtain ⟨v6, W2, hrun, hr2, hg2⟩ := run_copy_rows R0.out (HLc.out.later (bon HD6.out HWc.out)) (by rw [HNM.out]; omega) HWc.out.size
            rw [HNM.out] at hr2
            have R2 := mkHid hr2
            replace O3 := mkHid (own_grown O3.out hg2 (own_apart O3.out R0.out (by decide)))
            replace HWc := mkHid (Below.trans HWc.out (below_grown hg2 (fun k hk => (own_lt R0.out hk).1) HWc.out.size))
            clear hr2 hg2
            refine step_run (by rfl) _ _ (by rfl) (by rfl) (by rfl) (by rfl) hrun ?_
            refine hK.out _ _ trivial (fun hHeld => ?_)
            clear hK hrun R0
            refine wpAnyH_ready (rs := [9]) (by kernel_rfl) (by simp) ?_
            refine AllReadyH.cons rfl (fun K hK => ?_) AllReadyH.nil
            obtain ⟨v9, W9, hrun, ho9, hg9, -⟩ := run_nums .i64 Try.underlying35 hi0 hz0 hz1 hz2 (n := 0) (m := D.length) (c2 := ct) (R := D) O3.out (HT.out.later (bon HB6.out HWc.out)) (Nat.le_refl _) (by omega) (by omega) HWc.out.size (fun h => absurd h (by simp))
            rw [List.nil_append, Nat.zero_add] at ho9
            have O9 := mkHid ho9
            replace R2 := mkHid (own_grown R2.out hg9 (own_apart R2.out O3.out (by decide)))
            replace HWc := mkHid (Below.trans HWc.out (below_grown hg9 (fun k hk => (own_lt O3.out hk).1) HWc.out.size))
            clear ho9 hg9
            refine step_run (by rfl) _ _ (by rfl) (by rfl) (by rfl) (by rfl) hrun ?_
            refine hK.out _ _ trivial (fun hHeld => ?_)
            clear hK hrun O3
            refine wpAnyH_ready (rs := [10]) (by kernel_rfl) (by simp) ?_
            refine AllReadyH.cons rfl (fun K hK => ?_) AllReadyH.nil
            obtain ⟨a9, c9, rfl, -⟩ := own_val O9.out
            have b0 := bel_alloc W9 (.cells #[.slice a9 D.length c9] 35)
            have N9 := mkHid (one_cell W9 (.slice a9 D.length c9) 35)
            replace R2 := mkHid (own_keep R2.out b0)
            replace O9 := mkHid (own_keep O9.out b0)
            replace HWc := mkHid (bon HWc.out b0)
            go_simp
            refine hK.out _ _ trivial (fun hHeld => ?_)
            clear hK b0
            generalize W9.alloc (.cells #[.slice a9 D.length c9] 35) = W10 at *
            refine wpAnyH_ready (rs := [11]) (by kernel_rfl) (by simp) ?_
            refine AllReadyH.cons rfl (fun K hK => ?_) AllReadyH.nil
            obtain ⟨v11, W11, hrun, hr11, hg11⟩ := run_one_row (u := .slice a9 D.length c9) R2.out rfl N9.out (by omega) HWc.out.size
            have R11 := mkHid hr11
            replace O9 := mkHid (own_grown O9.out hg11 (own_apart O9.out R2.out (by decide)))
            replace HWc := mkHid (Below.trans HWc.out (below_grown hg11 (fun k hk => (own_lt R2.out hk).1) HWc.out.size))
            clear hr11 hg11
            refine step_run (by rfl) _ _ (by rfl) (by rfl) (by rfl) (by rfl) hrun ?_
            refine hK.out _ _ trivial (fun hHeld => ?_)
            clear hK hrun R2 N9
            refine wpAnyH_ready (rs := [13]) (by kernel_rfl) (by simp) ?_
            refine AllReadyH.cons rfl (fun K hK => ?_) AllReadyH.nil
            have hO9 : W11.ownsRow w6.heap.size 3 1 (.slice a9 D.length c9) (D.take 20).length (nums .i64 (D.take 20)) := by
              have := O9.out
              rw [HL.out, ← HTK.out]; exact this
            have hR11 := R11.out
            rw [← HNM.out] at hR11
            have HC13 := mkHid (CR.build HLc.out (bon HD6.out HWc.out) hR11 hO9)
            clear hO9 hR11 R11 O9
            go_simp
            go_wp2_with (go_at_call 14; ((with_reducible refine (U3.out _ _ _ HC13.out.rr (HA2.out.later (bon HD6.out HWc.out)).rk).mono ?_)); rintro e W13 ⟨g13, N13, rfl, hN13, hg13, ha13, hb13⟩; obtain rfl : N = N13 := HN2.out.trans hN13.symm; clear hN13; have HX13 := mkHid ha13; have HY13 := mkHid (HX6.out.later (bon HWc.out hb13)); have HB13 := mkHid (bon (bon HB6.out HWc.out) hb13); clear hb13 ha13)
            refine hK.out _ _ trivial (fun hHeld => ?_)
            clear hK HC13
            refine wpAnyH_take (i := 14) (v := ?_) rfl (by kernel_rfl) (by kernel_rfl) (by kernel_rfl) (fun _ _ _ h => h) (Or.inl ⟨by kernel_rfl, ?_⟩) (by assumption) ?_
            rotate_left
            · (intro w hSw; (try dsimp only at hSw); go_simp; try with_reducible rfl)
            simp only [Act.put, List.getElem_toArray, List.getElem_cons_succ, List.getElem_cons_zero, List.setIfInBounds_toArray, List.set_cons_zero, List.set_cons_succ]
            refine wpAnyH_take (i := 15) (v := ?_) rfl (by kernel_rfl) (by kernel_rfl) (by kernel_rfl) (fun _ _ _ h => h) (Or.inl ⟨by kernel_rfl, ?_⟩) (by assumption) ?_
            rotate_left
            · (intro w hSw; (try dsimp only at hSw); go_simp; try with_reducible rfl)
            simp only [Act.put, List.getElem_toArray, List.getElem_cons_succ, List.getElem_cons_zero, List.setIfInBounds_toArray, List.set_cons_zero, List.set_cons_succ]
            refine wpAnyH_take (i := 16) (v := ?_) rfl (by kernel_rfl) (by kernel_rfl) (by kernel_rfl) (fun _ _ _ h => h) (Or.inl ⟨by kernel_rfl, ?_⟩) (by assumption) ?_
            rotate_left
            · (intro w hSw; (try dsimp only at hSw); go_simp; try with_reducible rfl)
            simp only [Act.put, List.getElem_toArray, List.getElem_cons_succ, List.getElem_cons_zero, List.setIfInBounds_toArray, List.set_cons_zero, List.set_cons_succ]
            refine wpAnyH_take (i := 17) (v := ?_) rfl (by kernel_rfl) (by kernel_rfl) (by kernel_rfl) (fun _ _ _ h => h) (Or.inl ⟨by kernel_rfl, ?_⟩) (by assumption) ?_
            rotate_left
            · (intro w hSw; (try dsimp only at hSw); go_simp; try with_reducible rfl)
            simp only [Act.put, List.getElem_toArray, List.getElem_cons_succ, List.getElem_cons_zero, List.setIfInBounds_toArray, List.set_cons_zero, List.set_cons_succ]
            refine wpAnyH_take (i := 18) (v := ?_) rfl (by kernel_rfl) (by kernel_rfl) (by kernel_rfl) (fun _ _ _ h => h) (Or.inl ⟨by kernel_rfl, ?_⟩) (by assumption) ?_
            rotate_left
            · (intro w hSw; (try dsimp only at hSw); go_simp; try with_reducible rfl)
            simp only [Act.put, List.getElem_toArray, List.getElem_cons_succ, List.getElem_cons_zero, List.setIfInBounds_toArray, List.set_cons_zero, List.set_cons_succ]
            refine wpAnyH_done (by kernel_rfl) ?_ _
            cases cz
            · have HOV : Hid (∀ i, X.getD i 0 ≠ 0 → Z.getD i 0 = X.getD i 0) := fun i => ((F3.out rfl).2 i).1
              clear F3
              go_wp2
              go_loopw [18] (fun i w' => ∃ (p : Nat) (x : Int), p ≤ N ∧ i = .int .i64 x ∧ x = p ∧ Hid (Below W13.heap.size W13 w')) (fun i _ => (N - intOf i).toNat)
              case atStart => exact ⟨0, 0, Nat.zero_le _, rfl, rfl, mkHid (Below.refl _ _)⟩
              case round =>
                obtain ⟨p, x, hp, rfl, hxp, HW⟩ := hrel
                obtain rfl : x = (p : Int) := hxp
                by_cases hlp : p < N
                · have cz := (HX13.out.later HW.out).cell p hlp
                  have cx := (HY13.out.later HW.out).cell p hlp
                  have hlp' : (p : Int) < (N : Int) := by omega
                  have hov := HOV.out p
                  by_cases h0 : X.getD p 0 = 0
                  · rw [h0] at cx
                    clear hov h0
                    generalize Z.getD p 0 = z at *
                    go_wp2_with fail
                    go_quiet (fail)
                    go_wp2
                    go_roundw
                    case rel => exact ⟨p + 1, _, by omega, rfl, by omega, mkHid (below_drewN HW.out nq)⟩
                    case measure => simp [intOf]; omega
                  · have h1 := hov h0
                    rw [h1] at cz
                    clear hov h1
                    generalize X.getD p 0 = z at *
                    have hz1 : (z != 0) = true := by rw [bne_iff_ne]; exact h0
                    have hz2 : (z != z) = false := by simp
                    go_wp2_with fail
                    go_quiet (fail)
                    go_wp2
                    go_roundw
                    case rel => exact ⟨p + 1, _, by omega, rfl, by omega, mkHid (below_drewN HW.out nq)⟩
                    case measure => simp [intOf]; omega
                · have hlp' : ¬ (p : Int) < (N : Int) := by omega
                  go_wp2
                  go_ret
                  exact ⟨rfl, bon HB13.out HW.out⟩
            · clear F3
              go_wp2
              go_loopw [18] (fun i w' => ∃ (x : Int), i = .int .i64 x ∧ x = 0 ∧ Hid (Below W13.heap.size W13 w')) (fun _ _ => 0)
              case atStart => exact ⟨0, rfl, rfl, mkHid (Below.refl _ _)⟩
              case round =>
                obtain ⟨x, rfl, rfl, HW⟩ := hrel
                by_cases hn0 : 0 < N
                · have hlt' : (0 : Int) < (N : Int) := by omega
                  go_wp2
                  go_ret
                  exact ⟨rfl, bon HB13.out HW.out⟩
                · have hlt' : ¬ (0 : Int) < (N : Int) := by omega
                  go_wp2
                  go_ret
                  exact ⟨rfl, bon HB13.out HW.out⟩
          · have hl0 : (D.take 20).length = 20 := by rw [List.length_take]; omega
            have HL := mkHid hl0
            clear hl0
            go_wp2_with fail
            (try dsimp only [List.append])
            refine wp_region_held_drew (S := fun _ => True) (by kernel_rfl) trivial (fun hHeld => ?_)
            have HWc := mkHid (bon HW.out (bdrew (Below.refl wr.heap.size wr)))
            generalize wr.drew = V at *
            have h203 : (20 : Int) ≤ (ct : Int) := by omega
            have h204 : (20 : Int) < (D.length : Int) := by omega
            refine wpAnyH_take (i := 1) (v := ?_) rfl (by kernel_rfl) (by kernel_rfl) (by kernel_rfl) (fun _ _ _ h => h) (Or.inl ⟨by kernel_rfl, ?_⟩) (by assumption) ?_
            rotate_left
            · (intro w hSw; (try dsimp only at hSw); go_simp; try with_reducible rfl)
            simp only [Act.put, List.getElem_toArray, List.getElem_cons_succ, List.getElem_cons_zero, List.setIfInBounds_toArray, List.set_cons_zero, List.set_cons_succ]
            refine wpAnyH_take (i := 4) (v := ?_) rfl (by kernel_rfl) (by kernel_rfl) (by kernel_rfl) (fun _ _ _ h => h) (Or.inl ⟨by kernel_rfl, ?_⟩) (by assumption) ?_
            rotate_left
            · (intro w hSw; (try dsimp only at hSw); go_simp; try with_reducible rfl)
            simp only [Act.put, List.getElem_toArray, List.getElem_cons_succ, List.getElem_cons_zero, List.setIfInBounds_toArray, List.set_cons_zero, List.set_cons_succ]
            refine wpAnyH_take (i := 5) (v := ?_) rfl (by kernel_rfl) (by kernel_rfl) (by kernel_rfl) (fun _ _ _ h => h) (Or.inl ⟨by kernel_rfl, ?_⟩) (by assumption) ?_
            rotate_left
            · (intro w hSw; (try dsimp only at hSw); go_simp; try with_reducible rfl)
            simp only [Act.put, List.getElem_toArray, List.getElem_cons_succ, List.getElem_cons_zero, List.setIfInBounds_toArray, List.set_cons_zero, List.set_cons_succ]
            refine wpAnyH_take (i := 6) (v := ?_) rfl (by kernel_rfl) (by kernel_rfl) (by kernel_rfl) (fun _ _ _ h => h) (Or.inl ⟨by kernel_rfl, ?_⟩) (by assumption) ?_
            rotate_left
            · (intro w hSw; (try dsimp only at hSw); go_simp; try with_reducible rfl)
            simp only [Act.put, List.getElem_toArray, List.getElem_cons_succ, List.getElem_cons_zero, List.setIfInBounds_toArray, List.set_cons_zero, List.set_cons_succ]
            refine wpAnyH_take (i := 7) (v := ?_) rfl (by kernel_rfl) (by kernel_rfl) (by kernel_rfl) (fun _ _ _ h => h) (Or.inl ⟨by kernel_rfl, ?_⟩) (by assumption) ?_
            rotate_left
            · (intro w hSw; (try dsimp only at hSw); go_simp; try with_reducible rfl)
            simp only [Act.put, List.getElem_toArray, List.getElem_cons_succ, List.getElem_cons_zero, List.setIfInBounds_toArray, List.set_cons_zero, List.set_cons_succ]
            refine wpAnyH_take (i := 8) (v := ?_) rfl (by kernel_rfl) (by kernel_rfl) (by kernel_rfl) (fun _ _ _ h => h) (Or.inl ⟨by kernel_rfl, ?_⟩) (by assumption) ?_
            rotate_left
            · (intro w hSw; (try dsimp only at hSw); go_simp; try with_reducible rfl)
            simp only [Act.put, List.getElem_toArray, List.getElem_cons_succ, List.getElem_cons_zero, List.setIfInBounds_toArray, List.set_cons_zero, List.set_cons_succ]
            refine wpAnyH_take (i := 12) (v := ?_) rfl (by kernel_rfl) (by kernel_rfl) (by kernel_rfl) (fun _ _ _ h => h) (Or.inl ⟨by kernel_rfl, ?_⟩) (by assumption) ?_
            rotate_left
            · (intro w hSw; (try dsimp only at hSw); go_simp; try with_reducible rfl)
            simp only [Act.put, List.getElem_toArray, List.getElem_cons_succ, List.getElem_cons_zero, List.setIfInBounds_toArray, List.set_cons_zero, List.set_cons_succ]
            refine wpAnyH_ready (rs := [0, 3]) (by kernel_rfl) (by simp) ?_
            refine AllReadyH.cons rfl (fun K hK => ?_) ?_
            · have b0 := bel_alloc V (.cells #[] 35)
              have R0 := mkHid (own_base (nil_own V) HWc.out.size)
              replace HWc := mkHid (bon HWc.out b0)
              go_simp
              refine hK.out _ _ trivial (fun hHeld => ?_)
              clear hK b0
              generalize V.alloc (.cells #[] 35) = W0 at *
              refine wpAnyH_ready (rs := [2, 3]) (by kernel_rfl) (by simp) ?_
              refine AllReadyH.cons rfl (fun K hK => ?_) ?_
              · obtain ⟨v6, W2, hrun, hr2, hg2⟩ := run_copy_rows R0.out (HLc.out.later (bon HD6.out HWc.out)) (by rw [HNM.out]; omega) HWc.out.size
                rw [HNM.out] at hr2
                have R2 := mkHid hr2
                replace HWc := mkHid (Below.trans HWc.out (below_grown hg2 (fun k hk => (own_lt R0.out hk).1) HWc.out.size))
                clear hr2 hg2
                refine step_run (by rfl) _ _ (by rfl) (by rfl) (by rfl) (by rfl) hrun ?_
                refine hK.out _ _ trivial (fun hHeld => ?_)
                clear hK hrun R0
                refine wpAnyH_ready (rs := [3]) (by kernel_rfl) (by simp) ?_
                refine AllReadyH.cons rfl (fun K hK => ?_) AllReadyH.nil
                have b0 := bel_alloc W2 (.cells #[] 3)
                have O3 : Hid ((W2.alloc (.cells #[] 3)).ownsRow w6.heap.size 3 1 (.slice (some ⟨W2.heap.size, 0, none⟩) 0 0) 0 []) := own_base (World.ownsRow_lit (base := W2.heap.size) (size := 1) (e := 3) W2 #[] 0 (Nat.le_refl _) (by decide) rfl) HWc.out.size
                replace R2 := mkHid (own_keep R2.out b0)
                replace HWc := mkHid (bon HWc.out b0)
                go_simp
                refine hK.out _ _ trivial (fun hHeld => ?_)
                clear hK b0
                generalize W2.alloc (.cells #[] 3) = W3 at *
                refine wpAnyH_ready (rs := [9]) (by kernel_rfl) (by simp) ?_
                refine AllReadyH.cons rfl (fun K hK => ?_) AllReadyH.nil
                obtain ⟨v9, W9, hrun, ho9, hg9, -⟩ := run_nums .i64 Try.underlying35 hi0 hz0 hz1 hz2 (n := 0) (m := 20) (c2 := ct) (R := D) O3.out (HT.out.later (bon HB6.out HWc.out)) (by omega) (by omega) (by omega) HWc.out.size (fun h => absurd h (by simp))
                rw [List.nil_append, Nat.zero_add] at ho9
                have O9 := mkHid ho9
                replace R2 := mkHid (own_grown R2.out hg9 (own_apart R2.out O3.out (by decide)))
                replace HWc := mkHid (Below.trans HWc.out (below_grown hg9 (fun k hk => (own_lt O3.out hk).1) HWc.out.size))
                clear ho9 hg9
                refine step_run (by rfl) _ _ (by rfl) (by rfl) (by rfl) (by rfl) hrun ?_
                refine hK.out _ _ trivial (fun hHeld => ?_)
                clear hK hrun O3
                refine wpAnyH_ready (rs := [10]) (by kernel_rfl) (by simp) ?_
                refine AllReadyH.cons rfl (fun K hK => ?_) AllReadyH.nil
                obtain ⟨a9, c9, rfl, -⟩ := own_val O9.out
                have b0 := bel_alloc W9 (.cells #[.slice a9 20 c9] 35)
                have N9 := mkHid (one_cell W9 (.slice a9 20 c9) 35)
                replace R2 := mkHid (own_keep R2.out b0)
                replace O9 := mkHid (own_keep O9.out b0)
                replace HWc := mkHid (bon HWc.out b0)
                go_simp
                refine hK.out _ _ trivial (fun hHeld => ?_)
                clear hK b0
                generalize W9.alloc (.cells #[.slice a9 20 c9] 35) = W10 at *
                refine wpAnyH_ready (rs := [11]) (by kernel_rfl) (by simp) ?_
                refine AllReadyH.cons rfl (fun K hK => ?_) AllReadyH.nil
                obtain ⟨v11, W11, hrun, hr11, hg11⟩ := run_one_row (u := .slice a9 20 c9) R2.out rfl N9.out (by omega) HWc.out.size
                have R11 := mkHid hr11
                replace O9 := mkHid (own_grown O9.out hg11 (own_apart O9.out R2.out (by decide)))
                replace HWc := mkHid (Below.trans HWc.out (below_grown hg11 (fun k hk => (own_lt R2.out hk).1) HWc.out.size))
                clear hr11 hg11
                refine step_run (by rfl) _ _ (by rfl) (by rfl) (by rfl) (by rfl) hrun ?_
                refine hK.out _ _ trivial (fun hHeld => ?_)
                clear hK hrun R2 N9
                refine wpAnyH_ready (rs := [13]) (by kernel_rfl) (by simp) ?_
                refine AllReadyH.cons rfl (fun K hK => ?_) AllReadyH.nil
                have hO9 : W11.ownsRow w6.heap.size 3 1 (.slice a9 20 c9) (D.take 20).length (nums .i64 (D.take 20)) := by
                  have := O9.out
                  rw [HL.out]; exact this
                have hR11 := R11.out
                rw [← HNM.out] at hR11
                have HC13 := mkHid (CR.build HLc.out (bon HD6.out HWc.out) hR11 hO9)
                clear hO9 hR11 R11 O9
                go_simp
                go_wp2_with (go_at_call 14; ((with_reducible refine (U3.out _ _ _ HC13.out.rr (HA2.out.later (bon HD6.out HWc.out)).rk).mono ?_)); rintro e W13 ⟨g13, N13, rfl, hN13, hg13, ha13, hb13⟩; obtain rfl : N = N13 := HN2.out.trans hN13.symm; clear hN13; have HX13 := mkHid ha13; have HY13 := mkHid (HX6.out.later (bon HWc.out hb13)); have HB13 := mkHid (bon (bon HB6.out HWc.out) hb13); clear hb13 ha13)
                refine hK.out _ _ trivial (fun hHeld => ?_)
                clear hK HC13
                refine wpAnyH_take (i := 14) (v := ?_) rfl (by kernel_rfl) (by kernel_rfl) (by kernel_rfl) (fun _ _ _ h => h) (Or.inl ⟨by kernel_rfl, ?_⟩) (by assumption) ?_
                rotate_left
                · (intro w hSw; (try dsimp only at hSw); go_simp; try with_reducible rfl)
                simp only [Act.put, List.getElem_toArray, List.getElem_cons_succ, List.getElem_cons_zero, List.setIfInBounds_toArray, List.set_cons_zero, List.set_cons_succ]
                refine wpAnyH_take (i := 15) (v := ?_) rfl (by kernel_rfl) (by kernel_rfl) (by kernel_rfl) (fun _ _ _ h => h) (Or.inl ⟨by kernel_rfl, ?_⟩) (by assumption) ?_
                rotate_left
                · (intro w hSw; (try dsimp only at hSw); go_simp; try with_reducible rfl)
                simp only [Act.put, List.getElem_toArray, List.getElem_cons_succ, List.getElem_cons_zero, List.setIfInBounds_toArray, List.set_cons_zero, List.set_cons_succ]
                refine wpAnyH_take (i := 16) (v := ?_) rfl (by kernel_rfl) (by kernel_rfl) (by kernel_rfl) (fun _ _ _ h => h) (Or.inl ⟨by kernel_rfl, ?_⟩) (by assumption) ?_
                rotate_left
                · (intro w hSw; (try dsimp only at hSw); go_simp; try with_reducible rfl)
                simp only [Act.put, List.getElem_toArray, List.getElem_cons_succ, List.getElem_cons_zero, List.setIfInBounds_toArray, List.set_cons_zero, List.set_cons_succ]
                refine wpAnyH_take (i := 17) (v := ?_) rfl (by kernel_rfl) (by kernel_rfl) (by kernel_rfl) (fun _ _ _ h => h) (Or.inl ⟨by kernel_rfl, ?_⟩) (by assumption) ?_
                rotate_left
                · (intro w hSw; (try dsimp only at hSw); go_simp; try with_reducible rfl)
                simp only [Act.put, List.getElem_toArray, List.getElem_cons_succ, List.getElem_cons_zero, List.setIfInBounds_toArray, List.set_cons_zero, List.set_cons_succ]
                refine wpAnyH_take (i := 18) (v := ?_) rfl (by kernel_rfl) (by kernel_rfl) (by kernel_rfl) (fun _ _ _ h => h) (Or.inl ⟨by kernel_rfl, ?_⟩) (by assumption) ?_
                rotate_left
                · (intro w hSw; (try dsimp only at hSw); go_simp; try with_reducible rfl)
                simp only [Act.put, List.getElem_toArray, List.getElem_cons_succ, List.getElem_cons_zero, List.setIfInBounds_toArray, List.set_cons_zero, List.set_cons_succ]
                refine wpAnyH_done (by kernel_rfl) ?_ _
                cases cz
                · have HOV : Hid (∀ i, X.getD i 0 ≠ 0 → Z.getD i 0 = X.getD i 0) := fun i => ((F3.out rfl).2 i).1
                  clear F3
                  go_wp2
                  go_loopw [18] (fun i w' => ∃ (p : Nat) (x : Int), p ≤ N ∧ i = .int .i64 x ∧ x = p ∧ Hid (Below W13.heap.size W13 w')) (fun i _ => (N - intOf i).toNat)
                  case atStart => exact ⟨0, 0, Nat.zero_le _, rfl, rfl, mkHid (Below.refl _ _)⟩
                  case round =>
                    obtain ⟨p, x, hp, rfl, hxp, HW⟩ := hrel
                    obtain rfl : x = (p : Int) := hxp
                    by_cases hlp : p < N
                    · have cz := (HX13.out.later HW.out).cell p hlp
                      have cx := (HY13.out.later HW.out).cell p hlp
                      have hlp' : (p : Int) < (N : Int) := by omega
                      have hov := HOV.out p
                      by_cases h0 : X.getD p 0 = 0
                      · rw [h0] at cx
                        clear hov h0
                        generalize Z.getD p 0 = z at *
                        go_wp2_with fail
                        go_quiet (fail)
                        go_wp2
                        go_roundw
                        case rel => exact ⟨p + 1, _, by omega, rfl, by omega, mkHid (below_drewN HW.out nq)⟩
                        case measure => simp [intOf]; omega
                      · have h1 := hov h0
                        rw [h1] at cz
                        clear hov h1
                        generalize X.getD p 0 = z at *
                        have hz1 : (z != 0) = true := by rw [bne_iff_ne]; exact h0
                        have hz2 : (z != z) = false := by simp
                        go_wp2_with fail
                        go_quiet (fail)
                        go_wp2
                        go_roundw
                        case rel => exact ⟨p + 1, _, by omega, rfl, by omega, mkHid (below_drewN HW.out nq)⟩
                        case measure => simp [intOf]; omega
                    · have hlp' : ¬ (p : Int) < (N : Int) := by omega
                      go_wp2
                      go_ret
                      exact ⟨rfl, bon HB13.out HW.out⟩
                · clear F3
                  go_wp2
                  go_loopw [18] (fun i w' => ∃ (x : Int), i = .int .i64 x ∧ x = 0 ∧ Hid (Below W13.heap.size W13 w')) (fun _ _ => 0)
                  case atStart => exact ⟨0, rfl, rfl, mkHid (Below.refl _ _)⟩
                  case round =>
                    obtain ⟨x, rfl, rfl, HW⟩ := hrel
                    by_cases hn0 : 0 < N
                    · have hlt' : (0 : Int) < (N : Int) := by omega
                      go_wp2
                      go_ret
                      exact ⟨rfl, bon HB13.out HW.out⟩
                    · have hlt' : ¬ (0 : Int) < (N : Int) := by omega
                      go_wp2
                      go_ret
                      exact ⟨rfl, bon HB13.out HW.out⟩
              refine AllReadyH.cons rfl (fun K hK => ?_) AllReadyH.nil
              have b0 := bel_alloc W0 (.cells #[] 3)
              have O3 : Hid ((W0.alloc (.cells #[] 3)).ownsRow w6.heap.size 3 1 (.slice (some ⟨W0.heap.size, 0, none⟩) 0 0) 0 []) := own_base (World.ownsRow_lit (base := W0.heap.size) (size := 1) (e := 3) W0 #[] 0 (Nat.le_refl _) (by decide) rfl) HWc.out.size
              replace R0 := mkHid (own_keep R0.out b0)
              replace HWc := mkHid (bon HWc.out b0)
              go_simp
              refine hK.out _ _ trivial (fun hHeld => ?_)
              clear hK b0
              generalize W0.alloc (.cells #[] 3) = W3 at *
              refine wpAnyH_ready (rs := [2]) (by kernel_rfl) (by simp) ?_
              refine AllReadyH.cons rfl (fun K hK => ?_) AllReadyH.nil
              obtain ⟨v6, W2, hrun, hr2, hg2⟩ := run_copy_rows R0.out (HLc.out.later (bon HD6.out HWc.out)) (by rw [HNM.out]; omega) HWc.out.size
              rw [HNM.out] at hr2
              have R2 := mkHid hr2
              replace O3 := mkHid (own_grown O3.out hg2 (own_apart O3.out R0.out (by decide)))
              replace HWc := mkHid (Below.trans HWc.out (below_grown hg2 (fun k hk => (own_lt R0.out hk).1) HWc.out.size))
              clear hr2 hg2
              refine step_run (by rfl) _ _ (by rfl) (by rfl) (by rfl) (by rfl) hrun ?_
              refine hK.out _ _ trivial (fun hHeld => ?_)
              clear hK hrun R0
              refine wpAnyH_ready (rs := [9]) (by kernel_rfl) (by simp) ?_
              refine AllReadyH.cons rfl (fun K hK => ?_) AllReadyH.nil
              obtain ⟨v9, W9, hrun, ho9, hg9, -⟩ := run_nums .i64 Try.underlying35 hi0 hz0 hz1 hz2 (n := 0) (m := 20) (c2 := ct) (R := D) O3.out (HT.out.later (bon HB6.out HWc.out)) (by omega) (by omega) (by omega) HWc.out.size (fun h => absurd h (by simp))
              rw [List.nil_append, Nat.zero_add] at ho9
              have O9 := mkHid ho9
              replace R2 := mkHid (own_grown R2.out hg9 (own_apart R2.out O3.out (by decide)))
              replace HWc := mkHid (Below.trans HWc.out (below_grown hg9 (fun k hk => (own_lt O3.out hk).1) HWc.out.size))
              clear ho9 hg9
              refine step_run (by rfl) _ _ (by rfl) (by rfl) (by rfl) (by rfl) hrun ?_
              refine hK.out _ _ trivial (fun hHeld => ?_)
              clear hK hrun O3
              refine wpAnyH_ready (rs := [10]) (by kernel_rfl) (by simp) ?_
              refine AllReadyH.cons rfl (fun K hK => ?_) AllReadyH.nil
              obtain ⟨a9, c9, rfl, -⟩ := own_val O9.out
              have b0 := bel_alloc W9 (.cells #[.slice a9 20 c9] 35)
              have N9 := mkHid (one_cell W9 (.slice a9 20 c9) 35)
              replace R2 := mkHid (own_keep R2.out b0)
              replace O9 := mkHid (own_keep O9.out b0)
              replace HWc := mkHid (bon HWc.out b0)
              go_simp
              refine hK.out _ _ trivial (fun hHeld => ?_)
              clear hK b0
              generalize W9.alloc (.cells #[.slice a9 20 c9] 35) = W10 at *
              refine wpAnyH_ready (rs := [11]) (by kernel_rfl) (by simp) ?_
              refine AllReadyH.cons rfl (fun K hK => ?_) AllReadyH.nil
              obtain ⟨v11, W11, hrun, hr11, hg11⟩ := run_one_row (u := .slice a9 20 c9) R2.out rfl N9.out (by omega) HWc.out.size
              have R11 := mkHid hr11
              replace O9 := mkHid (own_grown O9.out hg11 (own_apart O9.out R2.out (by decide)))
              replace HWc := mkHid (Below.trans HWc.out (below_grown hg11 (fun k hk => (own_lt R2.out hk).1) HWc.out.size))
              clear hr11 hg11
              refine step_run (by rfl) _ _ (by rfl) (by rfl) (by rfl) (by rfl) hrun ?_
              refine hK.out _ _ trivial (fun hHeld => ?_)
              clear hK hrun R2 N9
              refine wpAnyH_ready (rs := [13]) (by kernel_rfl) (by simp) ?_
              refine AllReadyH.cons rfl (fun K hK => ?_) AllReadyH.nil
              have hO9 : W11.ownsRow w6.heap.size 3 1 (.slice a9 20 c9) (D.take 20).length (nums .i64 (D.take 20)) := by
                have := O9.out
                rw [HL.out]; exact this
              have hR11 := R11.out
              rw [← HNM.out] at hR11
              have HC13 := mkHid (CR.build HLc.out (bon HD6.out HWc.out) hR11 hO9)
              clear hO9 hR11 R11 O9
              go_simp
              go_wp2_with (go_at_call 14; ((with_reducible refine (U3.out _ _ _ HC13.out.rr (HA2.out.later (bon HD6.out HWc.out)).rk).mono ?_)); rintro e W13 ⟨g13, N13, rfl, hN13, hg13, ha13, hb13⟩; obtain rfl : N = N13 := HN2.out.trans hN13.symm; clear hN13; have HX13 := mkHid ha13; have HY13 := mkHid (HX6.out.later (bon HWc.out hb13)); have HB13 := mkHid (bon (bon HB6.out HWc.out) hb13); clear hb13 ha13)
              refine hK.out _ _ trivial (fun hHeld => ?_)
              clear hK HC13
              refine wpAnyH_take (i := 14) (v := ?_) rfl (by kernel_rfl) (by kernel_rfl) (by kernel_rfl) (fun _ _ _ h => h) (Or.inl ⟨by kernel_rfl, ?_⟩) (by assumption) ?_
              rotate_left
              · (intro w hSw; (try dsimp only at hSw); go_simp; try with_reducible rfl)
              simp only [Act.put, List.getElem_toArray, List.getElem_cons_succ, List.getElem_cons_zero, List.setIfInBounds_toArray, List.set_cons_zero, List.set_cons_succ]
              refine wpAnyH_take (i := 15) (v := ?_) rfl (by kernel_rfl) (by kernel_rfl) (by kernel_rfl) (fun _ _ _ h => h) (Or.inl ⟨by kernel_rfl, ?_⟩) (by assumption) ?_
              rotate_left
              · (intro w hSw; (try dsimp only at hSw); go_simp; try with_reducible rfl)
              simp only [Act.put, List.getElem_toArray, List.getElem_cons_succ, List.getElem_cons_zero, List.setIfInBounds_toArray, List.set_cons_zero, List.set_cons_succ]
              refine wpAnyH_take (i := 16) (v := ?_) rfl (by kernel_rfl) (by kernel_rfl) (by kernel_rfl) (fun _ _ _ h => h) (Or.inl ⟨by kernel_rfl, ?_⟩) (by assumption) ?_
              rotate_left
              · (intro w hSw; (try dsimp only at hSw); go_simp; try with_reducible rfl)
              simp only [Act.put, List.getElem_toArray, List.getElem_cons_succ, List.getElem_cons_zero, List.setIfInBounds_toArray, List.set_cons_zero, List.set_cons_succ]
              refine wpAnyH_take (i := 17) (v := ?_) rfl (by kernel_rfl) (by kernel_rfl) (by kernel_rfl) (fun _ _ _ h => h) (Or.inl ⟨by kernel_rfl, ?_⟩) (by assumption) ?_
              rotate_left
              · (intro w hSw; (try dsimp only at hSw); go_simp; try with_reducible rfl)
              simp only [Act.put, List.getElem_toArray, List.getElem_cons_succ, List.getElem_cons_zero, List.setIfInBounds_toArray, List.set_cons_zero, List.set_cons_succ]
              refine wpAnyH_take (i := 18) (v := ?_) rfl (by kernel_rfl) (by kernel_rfl) (by kernel_rfl) (fun _ _ _ h => h) (Or.inl ⟨by kernel_rfl, ?_⟩) (by assumption) ?_
              rotate_left
              · (intro w hSw; (try dsimp only at hSw); go_simp; try with_reducible rfl)
              simp only [Act.put, List.getElem_toArray, List.getElem_cons_succ, List.getElem_cons_zero, List.setIfInBounds_toArray, List.set_cons_zero, List.set_cons_succ]
              refine wpAnyH_done (by kernel_rfl) ?_ _
              cases cz
              · have HOV : Hid (∀ i, X.getD i 0 ≠ 0 → Z.getD i 0 = X.getD i 0) := fun i => ((F3.out rfl).2 i).1
                clear F3
                go_wp2
                go_loopw [18] (fun i w' => ∃ (p : Nat) (x : Int), p ≤ N ∧ i = .int .i64 x ∧ x = p ∧ Hid (Below W13.heap.size W13 w')) (fun i _ => (N - intOf i).toNat)
                case atStart => exact ⟨0, 0, Nat.zero_le _, rfl, rfl, mkHid (Below.refl _ _)⟩
                case round =>
                  obtain ⟨p, x, hp, rfl, hxp, HW⟩ := hrel
                  obtain rfl : x = (p : Int) := hxp
                  by_cases hlp : p < N
                  · have cz := (HX13.out.later HW.out).cell p hlp
                    have cx := (HY13.out.later HW.out).cell p hlp
                    have hlp' : (p : Int) < (N : Int) := by omega
                    have hov := HOV.out p
                    by_cases h0 : X.getD p 0 = 0
                    · rw [h0] at cx
                      clear hov h0
                      generalize Z.getD p 0 = z at *
                      go_wp2_with fail
                      go_quiet (fail)
                      go_wp2
                      go_roundw
                      case rel => exact ⟨p + 1, _, by omega, rfl, by omega, mkHid (below_drewN HW.out nq)⟩
                      case measure => simp [intOf]; omega
                    · have h1 := hov h0
                      rw [h1] at cz
                      clear hov h1
                      generalize X.getD p 0 = z at *
                      have hz1 : (z != 0) = true := by rw [bne_iff_ne]; exact h0
                      have hz2 : (z != z) = false := by simp
                      go_wp2_with fail
                      go_quiet (fail)
                      go_wp2
                      go_roundw
                      case rel => exact ⟨p + 1, _, by omega, rfl, by omega, mkHid (below_drewN HW.out nq)⟩
                      case measure => simp [intOf]; omega
                  · have hlp' : ¬ (p : Int) < (N : Int) := by omega
                    go_wp2
                    go_ret
                    exact ⟨rfl, bon HB13.out HW.out⟩
              · clear F3
                go_wp2
                go_loopw [18] (fun i w' => ∃ (x : Int), i = .int .i64 x ∧ x = 0 ∧ Hid (Below W13.heap.size W13 w')) (fun _ _ => 0)
                case atStart => exact ⟨0, rfl, rfl, mkHid (Below.refl _ _)⟩
                case round =>
                  obtain ⟨x, rfl, rfl, HW⟩ := hrel
                  by_cases hn0 : 0 < N
                  · have hlt' : (0 : Int) < (N : Int) := by omega
                    go_wp2
                    go_ret
                    exact ⟨rfl, bon HB13.out HW.out⟩
                  · have hlt' : ¬ (0 : Int) < (N : Int) := by omega
                    go_wp2
                    go_ret
                    exact ⟨rfl, bon HB13.out HW.out⟩
            refine AllReadyH.cons rfl (fun K hK => ?_) AllReadyH.nil
            have b0 := bel_alloc V (.cells #[] 3)
            have O3 : Hid ((V.alloc (.cells #[] 3)).ownsRow w6.heap.size 3 1 (.slice (some ⟨V.heap.size, 0, none⟩) 0 0) 0 []) := own_base (World.ownsRow_lit (base := V.heap.size) (size := 1) (e := 3) V #[] 0 (Nat.le_refl _) (by decide) rfl) HWc.out.size
            replace HWc := mkHid (bon HWc.out b0)
            go_simp
            refine hK.out _ _ trivial (fun hHeld => ?_)
            clear hK b0
            generalize V.alloc (.cells #[] 3) = W3 at *
            refine wpAnyH_ready (rs := [0]) (by kernel_rfl) (by simp) ?_
            refine AllReadyH.cons rfl (fun K hK => ?_) AllReadyH.nil
            have b0 := bel_alloc W3 (.cells #[] 35)
            have R0 := mkHid (own_base (nil_own W3) HWc.out.size)
            replace O3 := mkHid (own_keep O3.out b0)
            replace HWc := mkHid (bon HWc.out b0)
            go_simp
            refine hK.out _ _ trivial (fun hHeld => ?_)
            clear hK b0
            generalize W3.alloc (.cells #[] 35) = W0 at *
            refine wpAnyH_ready (rs := [2]) (by kernel_rfl) (by simp) ?_
            refine AllReadyH.cons rfl (fun K hK => ?_) AllReadyH.nil
            obtain ⟨v6, W2, hrun, hr2, hg2⟩ := run_copy_rows R0.out (HLc.out.later (bon HD6.out HWc.out)) (by rw [HNM.out]; omega) HWc.out.size
            rw [HNM.out] at hr2
            have R2 := mkHid hr2
            replace O3 := mkHid (own_grown O3.out hg2 (own_apart O3.out R0.out (by decide)))
            replace HWc := mkHid (Below.trans HWc.out (below_grown hg2 (fun k hk => (own_lt R0.out hk).1) HWc.out.size))
            clear hr2 hg2
            refine step_run (by rfl) _ _ (by rfl) (by rfl) (by rfl) (by rfl) hrun ?_
            refine hK.out _ _ trivial (fun hHeld => ?_)
            clear hK hrun R0
            refine wpAnyH_ready (rs := [9]) (by kernel_rfl) (by simp) ?_
            refine AllReadyH.cons rfl (fun K hK => ?_) AllReadyH.nil
            obtain ⟨v9, W9, hrun, ho9, hg9, -⟩ := run_nums .i64 Try.underlying35 hi0 hz0 hz1 hz2 (n := 0) (m := 20) (c2 := ct) (R := D) O3.out (HT.out.later (bon HB6.out HWc.out)) (by omega) (by omega) (by omega) HWc.out.size (fun h => absurd h (by simp))
            rw [List.nil_append, Nat.zero_add] at ho9
            have O9 := mkHid ho9
            replace R2 := mkHid (own_grown R2.out hg9 (own_apart R2.out O3.out (by decide)))
            replace HWc := mkHid (Below.trans HWc.out (below_grown hg9 (fun k hk => (own_lt O3.out hk).1) HWc.out.size))
            clear ho9 hg9
            refine step_run (by rfl) _ _ (by rfl) (by rfl) (by rfl) (by rfl) hrun ?_
            refine hK.out _ _ trivial (fun hHeld => ?_)
            clear hK hrun O3
            refine wpAnyH_ready (rs := [10]) (by kernel_rfl) (by simp) ?_
            refine AllReadyH.cons rfl (fun K hK => ?_) AllReadyH.nil
            obtain ⟨a9, c9, rfl, -⟩ := own_val O9.out
            have b0 := bel_alloc W9 (.cells #[.slice a9 20 c9] 35)
            have N9 := mkHid (one_cell W9 (.slice a9 20 c9) 35)
            replace R2 := mkHid (own_keep R2.out b0)
            replace O9 := mkHid (own_keep O9.out b0)
            replace HWc := mkHid (bon HWc.out b0)
            go_simp
            refine hK.out _ _ trivial (fun hHeld => ?_)
            clear hK b0
            generalize W9.alloc (.cells #[.slice a9 20 c9] 35) = W10 at *
            refine wpAnyH_ready (rs := [11]) (by kernel_rfl) (by simp) ?_
            refine AllReadyH.cons rfl (fun K hK => ?_) AllReadyH.nil
            obtain ⟨v11, W11, hrun, hr11, hg11⟩ := run_one_row (u := .slice a9 20 c9) R2.out rfl N9.out (by omega) HWc.out.size
            have R11 := mkHid hr11
            replace O9 := mkHid (own_grown O9.out hg11 (own_apart O9.out R2.out (by decide)))
            replace HWc := mkHid (Below.trans HWc.out (below_grown hg11 (fun k hk => (own_lt R2.out hk).1) HWc.out.size))
            clear hr11 hg11
            refine step_run (by rfl) _ _ (by rfl) (by rfl) (by rfl) (by rfl) hrun ?_
            refine hK.out _ _ trivial (fun hHeld => ?_)
            clear hK hrun R2 N9
            refine wpAnyH_ready (rs := [13]) (by kernel_rfl) (by simp) ?_
            refine AllReadyH.cons rfl (fun K hK => ?_) AllReadyH.nil
            have hO9 : W11.ownsRow w6.heap.size 3 1 (.slice a9 20 c9) (D.take 20).length (nums .i64 (D.take 20)) := by
              have := O9.out
              rw [HL.out]; exact this
            have hR11 := R11.out
            rw [← HNM.out] at hR11
            have HC13 := mkHid (CR.build HLc.out (bon HD6.out HWc.out) hR11 hO9)
            clear hO9 hR11 R11 O9
            go_simp
            go_wp2_with (go_at_call 14; ((with_reducible refine (U3.out _ _ _ HC13.out.rr (HA2.out.later (bon HD6.out HWc.out)).rk).mono ?_)); rintro e W13 ⟨g13, N13, rfl, hN13, hg13, ha13, hb13⟩; obtain rfl : N = N13 := HN2.out.trans hN13.symm; clear hN13; have HX13 := mkHid ha13; have HY13 := mkHid (HX6.out.later (bon HWc.out hb13)); have HB13 := mkHid (bon (bon HB6.out HWc.out) hb13); clear hb13 ha13)
            refine hK.out _ _ trivial (fun hHeld => ?_)
            clear hK HC13
            refine wpAnyH_take (i := 14) (v := ?_) rfl (by kernel_rfl) (by kernel_rfl) (by kernel_rfl) (fun _ _ _ h => h) (Or.inl ⟨by kernel_rfl, ?_⟩) (by assumption) ?_
            rotate_left
            · (intro w hSw; (try dsimp only at hSw); go_simp; try with_reducible rfl)
            simp only [Act.put, List.getElem_toArray, List.getElem_cons_succ, List.getElem_cons_zero, List.setIfInBounds_toArray, List.set_cons_zero, List.set_cons_succ]
            refine wpAnyH_take (i := 15) (v := ?_) rfl (by kernel_rfl) (by kernel_rfl) (by kernel_rfl) (fun _ _ _ h => h) (Or.inl ⟨by kernel_rfl, ?_⟩) (by assumption) ?_
            rotate_left
            · (intro w hSw; (try dsimp only at hSw); go_simp; try with_reducible rfl)
            simp only [Act.put, List.getElem_toArray, List.getElem_cons_succ, List.getElem_cons_zero, List.setIfInBounds_toArray, List.set_cons_zero, List.set_cons_succ]
            refine wpAnyH_take (i := 16) (v := ?_) rfl (by kernel_rfl) (by kernel_rfl) (by kernel_rfl) (fun _ _ _ h => h) (Or.inl ⟨by kernel_rfl, ?_⟩) (by assumption) ?_
            rotate_left
            · (intro w hSw; (try dsimp only at hSw); go_simp; try with_reducible rfl)
            simp only [Act.put, List.getElem_toArray, List.getElem_cons_succ, List.getElem_cons_zero, List.setIfInBounds_toArray, List.set_cons_zero, List.set_cons_succ]
            refine wpAnyH_take (i := 17) (v := ?_) rfl (by kernel_rfl) (by kernel_rfl) (by kernel_rfl) (fun _ _ _ h => h) (Or.inl ⟨by kernel_rfl, ?_⟩) (by assumption) ?_
            rotate_left
            · (intro w hSw; (try dsimp only at hSw); go_simp; try with_reducible rfl)
            simp only [Act.put, List.getElem_toArray, List.getElem_cons_succ, List.getElem_cons_zero, List.setIfInBounds_toArray, List.set_cons_zero, List.set_cons_succ]
            refine wpAnyH_take (i := 18) (v := ?_) rfl (by kernel_rfl) (by kernel_rfl) (by kernel_rfl) (fun _ _ _ h => h) (Or.inl ⟨by kernel_rfl, ?_⟩) (by assumption) ?_
            rotate_left
            · (intro w hSw; (try dsimp only at hSw); go_simp; try with_reducible rfl)
            simp only [Act.put, List.getElem_toArray, List.getElem_cons_succ, List.getElem_cons_zero, List.setIfInBounds_toArray, List.set_cons_zero, List.set_cons_succ]
            refine wpAnyH_done (by kernel_rfl) ?_ _
            cases cz
            · have HOV : Hid (∀ i, X.getD i 0 ≠ 0 → Z.getD i 0 = X.getD i 0) := fun i => ((F3.out rfl).2 i).1
              clear F3
              go_wp2
              go_loopw [18] (fun i w' => ∃ (p : Nat) (x : Int), p ≤ N ∧ i = .int .i64 x ∧ x = p ∧ Hid (Below W13.heap.size W13 w')) (fun i _ => (N - intOf i).toNat)
              case atStart => exact ⟨0, 0, Nat.zero_le _, rfl, rfl, mkHid (Below.refl _ _)⟩
              case round =>
                obtain ⟨p, x, hp, rfl, hxp, HW⟩ := hrel
                obtain rfl : x = (p : Int) := hxp
                by_cases hlp : p < N
                · have cz := (HX13.out.later HW.out).cell p hlp
                  have cx := (HY13.out.later HW.out).cell p hlp
                  have hlp' : (p : Int) < (N : Int) := by omega
                  have hov := HOV.out p
                  by_cases h0 : X.getD p 0 = 0
                  · rw [h0] at cx
                    clear hov h0
                    generalize Z.getD p 0 = z at *
                    go_wp2_with fail
                    go_quiet (fail)
                    go_wp2
                    go_roundw
                    case rel => exact ⟨p + 1, _, by omega, rfl, by omega, mkHid (below_drewN HW.out nq)⟩
                    case measure => simp [intOf]; omega
                  · have h1 := hov h0
                    rw [h1] at cz
                    clear hov h1
                    generalize X.getD p 0 = z at *
                    have hz1 : (z != 0) = true := by rw [bne_iff_ne]; exact h0
                    have hz2 : (z != z) = false := by simp
                    go_wp2_with fail
                    go_quiet (fail)
                    go_wp2
                    go_roundw
                    case rel => exact ⟨p + 1, _, by omega, rfl, by omega, mkHid (below_drewN HW.out nq)⟩
                    case measure => simp [intOf]; omega
                · have hlp' : ¬ (p : Int) < (N : Int) := by omega
                  go_wp2
                  go_ret
                  exact ⟨rfl, bon HB13.out HW.out⟩
            · clear F3
              go_wp2
              go_loopw [18] (fun i w' => ∃ (x : Int), i = .int .i64 x ∧ x = 0 ∧ Hid (Below W13.heap.size W13 w')) (fun _ _ => 0)
              case atStart => exact ⟨0, rfl, rfl, mkHid (Below.refl _ _)⟩
              case round =>
                obtain ⟨x, rfl, rfl, HW⟩ := hrel
                by_cases hn0 : 0 < N
                · have hlt' : (0 : Int) < (N : Int) := by omega
                  go_wp2
                  go_ret
                  exact ⟨rfl, bon HB13.out HW.out⟩
                · have hlt' : ¬ (0 : Int) < (N : Int) := by omega
                  go_wp2
                  go_ret
                  exact ⟨rfl, bon HB13.out HW.out⟩
  · go_enter Try.func5, Try.ntmps5
    go_wp2_with (first
      | (go_at_call 12; ((with_reducible refine (shown_any _).mono ?_)); rintro e w1 ⟨rfl, hb1⟩; have HB1 := mkHid hb1; clear hb1)
      | (revert HB2; intro HB2; (go_at_call 14; ((with_reducible refine (U1.out _ _ _ HLr.out HA2.out.rk).mono ?_)); rintro e w3 ⟨g3, N3, rfl, hN3, hg3, ha3, hb3⟩; have HN3 := mkHid hN3; clear hN3; have HB3 := mkHid (bon HB2.out hb3); clear hb3 ha3))
      | (revert HB1; intro HB1; (go_at_call 13; ((with_reducible refine (FW.out _ HB1.out).mono ?_)); rintro e w2 ⟨v2, us2, g, N, c2, rfl, hN2, hn2, hl2, hg2, ha2, hb2⟩; have HN2 := mkHid hN2; clear hN2; have HA2 := mkHid ha2; have HB2 := mkHid (bon HB1.out hb2); have HLr := mkHid hl2.rr; clear hb2 ha2 hl2)))
    go_ret
    exact ⟨rfl, HB3.out⟩
end Go.Proofs.Ytilhamnibdjfaaa
