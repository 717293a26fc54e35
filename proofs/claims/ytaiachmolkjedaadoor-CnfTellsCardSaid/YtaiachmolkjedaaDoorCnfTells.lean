/-
  CnfTells, walked: it returns true.
-/
import Derived.Test.YtaiachmolkjedaaDoorCnRh
import Derived.Deep.RegionHeld2
namespace Go.Proofs.YtaiachmolkjedaaDoor
open Go.RowKit

/-- blocks of numbers that were made in between -/
def ZS (w3 : World) (base k : Nat) : Prop := base ≤ k ∧ k < w3.heap.size ∧ ∃ cur, w3.heap[k]? = some (.cells cur 3 (0, 0))
/-- rows that are written over: nothing else has turned, and they are as long as they were -/
structure ZI (w3 : World) (base : Nat) (C : List (List Int)) (us : List Value) (a w : World) : Prop where
  gr : Gr (ZS w3 base) a (.slice none 0 0) w (.slice none 0 0)
  rows : ∀ i (hi : i < C.length) (hi' : i < us.length), ∃ xs, w.ownsRow base 3 1 us[i] C[i].length xs
theorem ZI.start {w3 a : World} {base : Nat} {v : Value} {C : List (List Int)} {us : List Value} (h : CRows w3 base v C us) (hb : Below w3.heap.size w3 a) : ZI w3 base C us a a :=
  ⟨Gr.refl _ _ _, fun i hi hi' => ⟨_, own_lat' (h.els i hi hi') hb⟩⟩
theorem ZI.set {w3 a w : World} {base g k : Nat} {C : List (List Int)} {us : List Value} (h : ZI w3 base C us a w) (hg : ZS w3 base g) (u : Value) : ZI w3 base C us a (w.setCell ⟨g, k, none⟩ u) := by
  refine ⟨h.gr.set (p := ⟨g, k, none⟩) hg u, fun i hi hi' => ?_⟩
  obtain ⟨xs, hr⟩ := h.rows i hi hi'
  rcases hr.2 with ⟨e, h0⟩ | ⟨g', cap, cur, e, hbg, hg', hrest⟩
  · exact ⟨xs, hr.1, .inl ⟨e, h0⟩⟩
  · by_cases hgg : g' = g
    · subst hgg
      rw [e] at hr ⊢
      exact ⟨_, (hr.stored k u).1⟩
    · refine ⟨xs, own_gr (S := (· = g)) ((Gr.refl (· = g) w (.slice none 0 0)).set (p := ⟨g, k, none⟩) rfl u) hr (fun q hq => ⟨fun eq => ?_, by simp [Value.ownBlock]⟩)⟩
      rw [e] at hq
      simp only [Value.ownBlock, Option.some.injEq] at hq
      have eq' : q = g := eq
      omega
theorem ZS.of {w3 : World} {base g n : Nat} {v : Value} {xs : List Value} (h : w3.ownsRow base 3 1 v n xs) (hv : v.ownBlock = some g) : ZS w3 base g :=
  ⟨(own_lt h hv).1, (own_lt h hv).2, own_kind' h hv⟩
theorem not_zs {w3 : World} {base b k n : Nat} {v : Value} {xs : List Value} (h : w3.ownsRow b 54 1 v n xs) (hv : v.ownBlock = some k) : ¬ ZS w3 base k := by
  rintro ⟨-, -, cur, hk⟩
  obtain ⟨c, hc⟩ := own_kind' h hv
  rw [hk] at hc
  simp at hc
/-- one number written over -/
theorem ZI.at {w3 a w : World} {base : Nat} {C : List (List Int)} {us : List Value} {v : Value} (h : ZI w3 base C us a w) (hC : CRows w3 base v C us) {i k : Nat} (hi : i < C.length) (hi' : i < us.length) (hk : k < C[i].length) :
    ∃ g c u, us[i] = .slice (some ⟨g, 0, none⟩) C[i].length c ∧ w.cell? ⟨g, k, none⟩ = some u ∧ w.frozen? ⟨g, k, none⟩ = false ∧ ∀ x, ZI w3 base C us a (w.setCell ⟨g, k, none⟩ x) := by
  obtain ⟨xs, hr⟩ := h.rows i hi hi'
  obtain ⟨g, c, e⟩ := own_some hr (by omega)
  have h3 := hC.els i hi hi'
  rw [e] at hr h3
  have hl := hr.1
  exact ⟨g, c, xs[k]'(by omega), e, by rw [hr.cellAt k (by omega), List.getElem?_eq_getElem (by omega)], hr.frozenAt k, fun x => h.set (ZS.of h3 rfl) x⟩
set_option maxRecDepth 100000 in
set_option maxHeartbeats 16000000 in
theorem tells_any (t : Tm) (w : World) (ht : TIn w w.heap.size t) (hS : Shps w) : Calls Tryd.prog 9 #[t.val] w (RetV (.bool true) w) := by
  have B0 := bel_alloc w (boxT t)
  have F1 := box_four w t
  have CH := mkHid (shown_any (w.alloc (boxT t)) (hS.later B0))
  have HS := mkHid (hS.later B0)
  have HT := mkHid (ht.later B0)
  have hW2 : w.alloc (.cells #[.int .i64 t.op, .string t.nm, .int .i64 t.n, .slice t.a t.ks.length t.c] 24) = w.alloc (boxT t) := rfl
  generalize w.alloc (boxT t) = W1 at *
  have HF1 := mkHid F1
  clear hS ht F1
  have CL1 : Hid (∀ w' : World, TIn w' w'.heap.size t → Shps w' → Calls Tryd.prog 33 #[t.val] w' (ClaP t w')) := fun w' h1 h2 => clauses_any t w' h1 h2
  have CL2 : Hid (∀ w' : World, TIn w' w'.heap.size t → Calls Tryd.prog 37 #[t.val] w' (RClP t w')) := fun w' h1 => rClauses_any t w' h1
  unfold Tm.val at CL1 CL2
  unfold Tm.val
  go_enter Tryd.func9, Tryd.ntmps9
  go_wp2_with fail
  ((with_reducible refine CH.out.mono ?_)); rintro e w2 ⟨rfl, hb2⟩
  clear CH hW2
  obtain ⟨x0, x1, x2, x3⟩ := HF1.out.later hb2
  simp only [Nat.zero_add] at x1 x2 x3
  have HT2 := mkHid (HT.out.later hb2)
  have HS2 := mkHid (HS.out.later hb2)
  have HF2 := mkHid (HF1.out.later hb2)
  have HB2 := mkHid (bon B0 hb2)
  clear B0 HT HS HF1 hb2
  go_wp2_with fail
  ((with_reducible refine (CL1.out _ HT2.out HS2.out).mono ?_)); rintro e w3 ⟨vC, vA, A, us, F, base, rfl, hb3, hF2, hFb, hFw, hC, hA, hl⟩
  clear x0 x1 x2 x3
  have HB3 := mkHid hb3
  have HC := mkHid hC
  have HRR := mkHid (hC.rr (cC_short t).1 (cC_short t).2)
  have HA := mkHid (hA.row hFw)
  have HAE := mkHid (hA.els hFw)
  have HFF : Hid (w2.heap.size ≤ F ∧ F < base ∧ F ≤ w3.heap.size) := ⟨hF2, hFb, hFw⟩
  obtain ⟨aA, ca, rfl, hAl, -, -⟩ := hA
  obtain ⟨x0, x1, x2, x3⟩ := HF2.out.later hb3
  simp only [Nat.zero_add] at x1 x2 x3
  have HL := mkHid hl
  have C2 := mkHid (CL2.out w3 (HT2.out.later hb3))
  clear CL2 hC hl hb3 hF2 hFb hFw
  go_wp2_with fail
  ((with_reducible refine C2.out.mono ?_)); rintro e w4 ⟨vC2, vA2, A2, us2, rfl, hb4, hC2, hA2, hE2, hl2⟩
  clear C2 x0 x1 x2 x3
  have HB4 := mkHid hb4
  have HC2 := mkHid hC2
  have HRR2 := mkHid (hC2.rr (cC_short t).1 (cC_short t).2)
  have hAA : A2.length = A.length := by
    have e := congrArg List.length (hl2.trans HL.out.symm)
    rw [List.length_map, List.length_map] at e
    exact e
  have HA2 := mkHid (hA2.row (by omega))
  have HAE2 := mkHid hE2
  obtain ⟨aA2, ca2, rfl⟩ : ∃ a c, vA2 = .slice a A2.length c := by
    obtain ⟨b0, h⟩ := hA2
    exact own_val h
  have HEQ : Hid (∀ k (h1 : k < A.length) (h2 : k < A2.length), eqT A[k] A2[k] = true) := fun k h1 h2 => (eqT_iff _ _).2 (er_at (HL.out.trans hl2.symm) k h1 h2)
  obtain ⟨aC, cc, rfl, -, -, -⟩ := HRR.out
  obtain ⟨aC2, cc2, rfl, -, -, -⟩ := HRR2.out
  have CS := mkHid (fun (w' : World) (hb : Below w4.heap.size w4 w') => same_any (cC t) (cC t) _ _ w' ((HRR.out.later hb4).later hb) (HRR2.out.later hb))
  rw [decide_eq_true rfl] at CS
  rw [hAA]
  have HAL2 := mkHid hAA
  clear hb4 hC2 hA2 hE2 hl2 hAA HL
  have hne1 : ((cE t : Int) != (cE t : Int)) = false := by simp
  have hne2 : ((cN t : Int) != (cN t : Int)) = false := by simp
  obtain ⟨al, hal⟩ : ∃ al, A.length = al := ⟨_, rfl⟩
  have HAL := mkHid hal
  rw [hal] at hAl ⊢
  obtain ⟨cl, hcl⟩ : ∃ cl, (cC t).length = cl := ⟨_, rfl⟩
  have HCL := mkHid hcl
  have hcl9 : cl ≤ 100000 := by rw [← hcl]; exact (cC_short t).1
  rw [hcl] at CS ⊢
  have hne3 : ((al : Int) != (al : Int)) = false := by simp
  generalize cE t = er at *
  generalize cN t = nn at *
  clear hal hcl
  go_wp2_with (go_at_call 38; ((with_reducible refine (CS.out _ (Below.refl _ _)).mono ?_)); rintro e w5 ⟨rfl, hb5⟩; have HB5 := mkHid hb5; clear hb5)
  clear hne1 hne2 hne3 CS
  go_loopw [12] (fun i w' => ∃ (k : Nat) (x : Int), i = .int .i64 x ∧ x = k ∧ k ≤ al ∧ Hid (Below w4.heap.size w4 w')) (fun i _ => (al - intOf i).toNat)
  case atStart => exact ⟨0, 0, rfl, rfl, Nat.zero_le _, HB5⟩
  case round =>
    clear HB5
    obtain ⟨k, y, rfl, hyk, hk, BW⟩ := hrel
    obtain rfl : y = (k : Int) := hyk
    by_cases hlt : k < al
    · have h1 : k < A.length := by rw [HAL.out]; exact hlt
      have h2 : k < A2.length := by rw [HAL2.out]; exact h1
      obtain ⟨a1', c1', ea, -, ha⟩ := (HA.out.later HB4.out).later BW.out
      simp only [Value.slice.injEq, HAL.out, true_and] at ea
      obtain ⟨rfl, rfl⟩ := ea
      obtain ⟨a2', c2', eb, -, hb⟩ := HA2.out.later BW.out
      simp only [Value.slice.injEq, true_and] at eb
      obtain ⟨rfl, rfl⟩ := eb
      obtain ⟨ba, oa, rfl, -, fa⟩ := ha k h1
      obtain ⟨bb, ob, rfl, -, fb⟩ := hb k h2
      obtain ⟨ta, -, da⟩ := HAE.out A[k] (List.getElem_mem _)
      obtain ⟨tb, db⟩ := HAE2.out A2[k] (List.getElem_mem _)
      have bd := bdrew (Below.refl wr.heap.size wr)
      have CE := mkHid (rSame_any A[k] A2[k] wr.drew (((ta.later HB4.out).later BW.out).later bd) ((tb.later BW.out).later bd))
      rw [HEQ.out k h1 h2, decide_eq_true da, decide_eq_true db] at CE
      clear ha hb ta tb da db bd
      generalize A[k] = xa at *
      generalize A2[k] = xb at *
      clear h1 h2
      obtain ⟨g0, g1, g2, g3⟩ := fa
      obtain ⟨l0, l1, l2, l3⟩ := fb
      unfold Tm.val at CE
      have hk2 : (k : Int) < (al : Int) := by omega
      go_wp2_with fail
      go_region_held2 (fun w' => w'.cell? ⟨ba, oa + k * 4, none⟩ = some (.int .i64 xa.op) ∧ w'.cell? ⟨ba, oa + k * 4 + 1, none⟩ = some (.string xa.nm) ∧ w'.cell? ⟨ba, oa + k * 4 + 2, none⟩ = some (.int .i64 xa.n) ∧ w'.cell? ⟨ba, oa + k * 4 + 3, none⟩ = some (.slice xa.a xa.ks.length xa.c) ∧ w'.cell? ⟨bb, ob + k * 4, none⟩ = some (.int .i64 xb.op) ∧ w'.cell? ⟨bb, ob + k * 4 + 1, none⟩ = some (.string xb.nm) ∧ w'.cell? ⟨bb, ob + k * 4 + 2, none⟩ = some (.int .i64 xb.n) ∧ w'.cell? ⟨bb, ob + k * 4 + 3, none⟩ = some (.slice xb.a xb.ks.length xb.c)) (first | exact ⟨g0, g1, g2, g3, l0, l1, l2, l3⟩ | exact keep8 (w := wr.drew) ⟨g0, g1, g2, g3, l0, l1, l2, l3⟩ hb8) ((go_at_call 21; (with_reducible refine CE.out.mono ?_); rintro e w8 ⟨rfl, hb8⟩))
      go_wp2
      go_roundw
      case rel => exact ⟨k + 1, _, rfl, by omega, by omega, mkHid (bon (bdrew BW.out) hb8)⟩
      case measure => simp [intOf]; omega
    · obtain rfl : k = al := by omega
      clear HA HA2 HAE HAE2 HEQ HAL2 HRR
      have HB6 := mkHid (bon HB4.out BW.out)
      have HZ0 := mkHid (ZI.start (us := us) HC.out HB6.out)
      have HROW := mkHid (own_lat' HC.out.row HB6.out)
      have HC26 := mkHid (HC2.out.later BW.out)
      have HNZ : Hid (∀ k, (Value.slice aC cl cc).ownBlock = some k → ¬ ZS w3 base k) := fun k hk => not_zs HC.out.row (by rw [HCL.out]; exact hk)
      generalize hWZ : wr = WZ at *
      clear hWZ
      go_wp2
      go_loopw [13] (fun i w' => ∃ (j : Nat) (x : Int), i = .int .i64 x ∧ x = j ∧ j ≤ cl ∧ Hid (ZI w3 base (cC t) us WZ w')) (fun i _ => (cl - intOf i).toNat)
      case atStart => exact ⟨0, 0, rfl, rfl, Nat.zero_le _, HZ0⟩
      case round =>
        clear HZ0
        obtain ⟨j, y, rfl, hyj, hj, HZ⟩ := hrel
        obtain rfl : y = (j : Int) := hyj
        by_cases hjl : j < cl
        · have hj1 : j < (cC t).length := by rw [HCL.out]; exact hjl
          have hj2 : j < us.length := by rw [HC.out.len]; exact hj1
          have HRC : Hid (∀ w' : World, ZI w3 base (cC t) us WZ w' → ∃ g, aC = some ⟨g, 0, none⟩ ∧ w'.cell? ⟨g, j, none⟩ = some us[j]) := fun w' hz => by
            have hr := own_gr hz.gr HROW.out (fun k hk => ⟨HNZ.out k (by rw [← HCL.out]; exact hk), by simp [Value.ownBlock]⟩)
            obtain ⟨g, cap, e⟩ := own_some hr (by omega)
            have e' := e
            simp only [Value.slice.injEq, true_and] at e'
            rw [e] at hr
            exact ⟨g, e'.1, by rw [hr.cellAt j (by omega), List.getElem?_eq_getElem hj2]⟩
          obtain ⟨gC, hgC, -⟩ := HRC.out _ HZ.out
          have HRC2 : Hid (∀ w' : World, ZI w3 base (cC t) us WZ w' → w'.cell? ⟨gC, j, none⟩ = some us[j]) := fun w' hz => by
            obtain ⟨g, e, hc⟩ := HRC.out w' hz
            rw [hgC] at e
            simp only [Option.some.injEq, Addr.mk.injEq, and_true] at e
            rw [e]; exact hc
          subst hgC
          have HAT : Hid (∀ (w' : World) (k : Nat), ZI w3 base (cC t) us WZ w' → k < (cC t)[j].length → ∃ g c u, us[j] = .slice (some ⟨g, 0, none⟩) (cC t)[j].length c ∧ w'.cell? ⟨g, k, none⟩ = some u ∧ w'.frozen? ⟨g, k, none⟩ = false ∧ ∀ x, ZI w3 base (cC t) us WZ (w'.setCell ⟨g, k, none⟩ x)) := fun w' k hz hk => hz.at HC.out hj1 hj2 hk
          obtain ⟨a', c', hu⟩ := own_val (HC.out.els j hj1 hj2)
          have hr9 : (cC t)[j].length ≤ 100000 := (cC_short t).2 _ (List.getElem_mem _)
          rw [hu] at HRC2 HAT
          obtain ⟨R, hR⟩ : ∃ R, (cC t)[j].length = R := ⟨_, rfl⟩
          rw [hR] at HRC2 HAT hr9
          clear hu hR hj2 hj1 HRC
          have r1 := HRC2.out _ HZ.out
          have hjl2 : (j : Int) < (cl : Int) := by omega
          go_wp2
          clear r1
          go_loopw [14] (fun i w' => ∃ (k : Nat) (x : Int), i = .int .i64 x ∧ x = k ∧ k ≤ R ∧ Hid (ZI w3 base (cC t) us WZ w')) (fun i _ => (R - intOf i).toNat)
          case atStart => exact ⟨0, 0, rfl, rfl, Nat.zero_le _, HZ⟩
          case round =>
            clear HZ
            obtain ⟨k', y2, rfl, hyk2, hk', HZ⟩ := hrel
            obtain rfl : y2 = (k' : Int) := hyk2
            have r1 := HRC2.out _ HZ.out
            by_cases hkl : k' < R
            · obtain ⟨g, c, u, e, c1, f1, hset⟩ := HAT.out _ k' HZ.out hkl
              simp only [Value.slice.injEq, true_and] at e
              obtain ⟨rfl, rfl⟩ := e
              have HST := mkHid (hset (.int .i64 0))
              have hkl2 : (k' : Int) < (R : Int) := by omega
              clear hset
              go_wp2
              go_roundw
              case rel => exact ⟨k' + 1, _, rfl, by omega, by omega, HST⟩
              case measure => simp [intOf]; omega
            · obtain rfl : k' = R := by omega
              go_wp2
              go_roundw
              case rel => exact ⟨j + 1, _, rfl, by omega, by omega, HZ⟩
              case measure => simp [intOf]; omega
        · obtain rfl : j = cl := by omega
          have hG := HZ.out.gr
          have hF := HFF.out
          have hBF : Below F WZ wr := hG.below (fun k hk => by have := hk.1; omega) (fun k hk => by simp [Value.ownBlock] at hk) (by have := HB6.out.size; omega)
          have HB9 : Hid (Below w2.heap.size w2 wr) := (bon HB3.out HB6.out).trans (hBF.mono hF.1)
          obtain ⟨x0, x1, x2, x3⟩ := HF2.out.later HB9.out
          simp only [Nat.zero_add] at x1 x2 x3
          have HC29 : Hid (CRows wr w3.heap.size (.slice aC2 (cC t).length cc2) (cC t) us2) := by
            have h := HC26.out
            refine ⟨own_gr hG h.row (fun k hk => ⟨fun hs => ?_, by simp [Value.ownBlock]⟩), h.len, fun i h1 h2 => own_gr hG (h.els i h1 h2) (fun k hk => ⟨fun hs => ?_, by simp [Value.ownBlock]⟩)⟩
            · have := (own_lt h.row hk).1; have := hs.2.1; omega
            · have := (own_lt (h.els i h1 h2) hk).1; have := hs.2.1; omega
          have C9 := mkHid (CL1.out wr (HT2.out.later HB9.out) (HS2.out.later HB9.out))
          clear hG hF hBF HROW HC26 HNZ CL1
          go_wp2_with (first
            | (go_at_call 33; ((with_reducible refine C9.out.mono ?_)); rintro e w10 ⟨vC3, vA3, A3, us3, F3, base3, rfl, hb10, -, -, -, hC10, -, -⟩; have HRR3 := mkHid (hC10.rr (cC_short t).1 (cC_short t).2); have HRR4 := mkHid ((HC29.out.later hb10).rr (cC_short t).1 (cC_short t).2); have HB10 := mkHid (bon HB9.out hb10); have CS3 := mkHid (same_any (cC t) (cC t) _ _ w10 HRR3.out HRR4.out); rw [decide_eq_true rfl, HCL.out] at CS3; clear hC10 hb10)
            | (go_at_call 38; ((with_reducible refine CS3.out.mono ?_)); rintro e w11 ⟨rfl, hb11⟩))
          go_ret
          exact ⟨rfl, bon HB2.out (bon HB10.out hb11)⟩
end Go.Proofs.YtaiachmolkjedaaDoor
