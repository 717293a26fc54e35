/-
  CnfTwice, walked: it returns true.
-/
import Derived.Test.YtpknhdhiajoomaaDoorCnfNot
import Derived.Test.YtpknhdhiajoomaaDoorTmT
import Derived.Test.YtpknhdhiajoomaaDoorTmU
namespace Go.Proofs.YtpknhdhiajoomaaDoor
open Go.RowKit

theorem keep8 {w w' : World} {p0 p1 p2 p3 p4 p5 p6 p7 : Addr} {v0 v1 v2 v3 v4 v5 v6 v7 : Value} (h : w.cell? p0 = some v0 ∧ w.cell? p1 = some v1 ∧ w.cell? p2 = some v2 ∧ w.cell? p3 = some v3 ∧ w.cell? p4 = some v4 ∧ w.cell? p5 = some v5 ∧ w.cell? p6 = some v6 ∧ w.cell? p7 = some v7) (hb : Below w.heap.size w w') :
    w'.cell? p0 = some v0 ∧ w'.cell? p1 = some v1 ∧ w'.cell? p2 = some v2 ∧ w'.cell? p3 = some v3 ∧ w'.cell? p4 = some v4 ∧ w'.cell? p5 = some v5 ∧ w'.cell? p6 = some v6 ∧ w'.cell? p7 = some v7 := by
  obtain ⟨x0, x1, x2, x3, x4, x5, x6, x7⟩ := h
  exact ⟨cell_later hb x0, cell_later hb x1, cell_later hb x2, cell_later hb x3, cell_later hb x4, cell_later hb x5, cell_later hb x6, cell_later hb x7⟩
theorem er_at {A B : List Tm} (h : A.map Tm.er = B.map Tm.er) (k : Nat) (h1 : k < A.length) (h2 : k < B.length) : A[k].er = B[k].er := by
  have := congrArg (fun l => l[k]?) h
  simpa [h1, h2] using this
set_option maxRecDepth 100000 in
set_option maxHeartbeats 8000000 in
theorem twice_any (t : Tm) (w : World) (ht : TIn w w.heap.size t) (hS : Shps w) : Calls Tryd.prog 12 #[t.val] w (RetV (.bool true) w) := by
  have B0 := bel_alloc w (boxT t)
  have F1 := box_four w t
  have CH := mkHid (shown_any (w.alloc (boxT t)) (hS.later B0))
  have HS := mkHid (hS.later B0)
  have HT := mkHid (ht.later B0)
  have hW2 : w.alloc (.cells #[.int .i64 t.op, .string t.nm, .int .i64 t.n, .slice t.a t.ks.length t.c] 24) = w.alloc (boxT t) := rfl
  generalize w.alloc (boxT t) = W1 at *
  unfold Tm.val
  clear hS ht
  have HF1 := mkHid F1
  clear F1
  go_enter Tryd.func12, Tryd.ntmps12
  go_wp2_with fail
  ((with_reducible refine CH.out.mono ?_)); rintro e w2 ⟨rfl, hb2⟩
  clear CH hW2
  obtain ⟨x0, x1, x2, x3⟩ := HF1.out.later hb2
  simp only [Nat.zero_add] at x1 x2 x3
  have C1 := mkHid (clauses_any t w2 (HT.out.later hb2) (HS.out.later hb2))
  unfold Tm.val at C1
  have B2 := bon B0 hb2
  clear B0
  go_wp2_with fail
  ((with_reducible refine C1.out.mono ?_)); rintro e w3 ⟨vC, vA, A, us, F, base, rfl, hb3, -, -, hFw, hC, hA, hl⟩
  clear C1 x0 x1 x2 x3
  have HRR := mkHid (hC.rr (cC_short t).1 (cC_short t).2)
  have HA := mkHid (hA.row hFw)
  have HAE := mkHid (hA.els hFw)
  obtain ⟨aA, ca, rfl, hAl, -, -⟩ := hA
  obtain ⟨x0, x1, x2, x3⟩ := HF1.out.later (bon hb2 hb3)
  simp only [Nat.zero_add] at x1 x2 x3
  have HT3 := mkHid ((HT.out.later hb2).later hb3)
  have HS3 := mkHid ((HS.out.later hb2).later hb3)
  have HF3 := mkHid (HF1.out.later (bon hb2 hb3))
  have HB3 := mkHid (bon B2 hb3)
  have HL := mkHid hl
  clear hC hl B2 hb2 hb3 hFw HT HS HF1
  by_cases hE : cE t = 0
  · rw [hE]
    have CZ := mkHid (rSize_any t w3 HT3.out)
    unfold Tm.val at CZ
    by_cases hz : t.size ≤ 900
    · have hz1 : min 2001 t.size ≤ 900 := by omega
      have hz2 : ¬ (900 < min 2001 t.size) := by omega
      have HZ := mkHid hz
      generalize min 2001 t.size = z at *
      clear hz
      go_wp2_with fail
      ((with_reducible refine CZ.out.mono ?_)); rintro e w4 ⟨rfl, hb4⟩
      clear CZ
      have CD := mkHid (rDeep_any t w4 (HT3.out.later hb4))
      unfold Tm.val at CD
      have y0 := cell_later hb4 x0
      have y1 := cell_later hb4 x1
      have y2 := cell_later hb4 x2
      have y3 := cell_later hb4 x3
      clear x0 x1 x2 x3
      by_cases hd : t.deep ≤ 90
      · have hd1 : min 101 t.deep ≤ 90 := by omega
        have hd2 : ¬ (90 < min 101 t.deep) := by omega
        have HDD := mkHid hd
        generalize min 101 t.deep = dd at *
        clear hd
        go_wp2_with fail
        ((with_reducible refine CD.out.mono ?_)); rintro e w5 ⟨rfl, hb5⟩
        have x0 := cell_later hb5 y0
        have x1 := cell_later hb5 y1
        have x2 := cell_later hb5 y2
        have x3 := cell_later hb5 y3
        clear CD y0 y1 y2 y3
        have b6 := bel_alloc w5 (.cells #[.int .i64 t.op, .string t.nm, .int .i64 t.n, .slice t.a t.ks.length t.c, .int .i64 t.op, .string t.nm, .int .i64 t.n, .slice t.a t.ks.length t.c] 24)
        obtain ⟨p4, p5⟩ := build2 w5 t t
        have hT6 := (((HT3.out.later hb4).later hb5).later b6)
        have C2 := mkHid (clauses_any (q2 19 w5.heap.size t t) _ (q2_in' (by decide) p4 p5 hT6 hT6 (by simp)) (((HS3.out.later hb4).later hb5).later b6))
        have hv : (q2 19 w5.heap.size t t).val = .agg #[.int .i64 19, .string ⟨#[]⟩, .int .i64 0, .slice (some ⟨w5.heap.size, 0, none⟩) 2 2] := rfl
        rw [hv] at C2
        have hN3 : (q2 19 w5.heap.size t t).er = mkT 19 [t.er, t.er] := q2_er _ _ _ _
        have hcE := and_cE hN3 hE HZ.out HDD.out
        have H2 := mkHid (and_two (D := q2 19 w5.heap.size t t) (t := t) rfl rfl hE hcE)
        unfold ClaP at C2
        rw [hcE] at C2
        have HB6 := mkHid (bon (bon (bon HB3.out hb4) hb5) b6)
        replace HRR := mkHid (((HRR.out.later hb4).later hb5).later b6)
        replace HA := mkHid (((HA.out.later hb4).later hb5).later b6)
        have HAE6 : Hid (∀ x ∈ A, TIn (w5.alloc (.cells #[.int .i64 t.op, .string t.nm, .int .i64 t.n, .slice t.a t.ks.length t.c, .int .i64 t.op, .string t.nm, .int .i64 t.n, .slice t.a t.ks.length t.c] 24)) (w5.alloc (.cells #[.int .i64 t.op, .string t.nm, .int .i64 t.n, .slice t.a t.ks.length t.c, .int .i64 t.op, .string t.nm, .int .i64 t.n, .slice t.a t.ks.length t.c] 24)).heap.size x ∧ x.deep ≤ 100) := fun x hx => ⟨(((HAE.out x hx).1.later hb4).later hb5).later b6, (HAE.out x hx).2.2⟩
        clear hb4 hb5 b6 hv hN3 hcE p4 p5 hT6 HAE HT3 HS3
        generalize q2 19 w5.heap.size t t = D at *
        generalize hW6 : w5.alloc (.cells #[.int .i64 t.op, .string t.nm, .int .i64 t.n, .slice t.a t.ks.length t.c, .int .i64 t.op, .string t.nm, .int .i64 t.n, .slice t.a t.ks.length t.c] 24) = W6 at *
        go_wp2_with fail
        ((with_reducible refine C2.out.mono ?_)); rintro e w7 ⟨vD, vA2, A2, us2, F2, base2, rfl, hb7, -, -, hFw2, hD, hA2, hl2⟩
        have HRR2 := mkHid (hD.rr (cC_short D).1 (cC_short D).2)
        have HA2 := mkHid (hA2.row hFw2)
        have HAE2 := mkHid (hA2.els hFw2)
        obtain ⟨aA2, ca2, rfl, -, -, -⟩ := hA2
        have HL2 := mkHid hl2
        replace HRR := mkHid (HRR.out.later hb7)
        replace HA := mkHid (HA.out.later hb7)
        have HAE : Hid (∀ x ∈ A, TIn w7 w7.heap.size x ∧ x.deep ≤ 100) := fun x hx => ⟨(HAE6.out x hx).1.later hb7, (HAE6.out x hx).2⟩
        have HB7 := mkHid (bon HB6.out hb7)
        clear C2 hD hl2 hb7 hFw2 HAE6 HB6 hW6 x0 x1 x2 x3 HF3 HB3 hd1 hd2 hz1 hz2
        obtain ⟨e1, e2, e3, r, s, x, d, k3, k4, k5, k6⟩ := H2.out
        have hr1 := HRR.out
        have hr2 := HRR2.out
        have hsh := (cC_short D).1
        rw [k3] at hr1
        rw [k4] at hr2 hsh
        have hal2 : A2.length = A.length := by
          have h1 := congrArg List.length HL.out
          have h2 := congrArg List.length HL2.out
          rw [List.length_map] at h1 h2
          rw [h1, h2, e1]
        have hal1 : (cA t).length = A.length := by rw [← HL.out, List.length_map]
        have T1 : ∀ a n c, vC = .slice a n c → RR w7 (.slice a r.length c) r := fun a n c e => by
          subst e
          obtain ⟨a', c', e', h1, h2, h3⟩ := id hr1
          simp only [Value.slice.injEq] at e'
          obtain ⟨rfl, rfl, rfl⟩ := e'
          have := RR.take (n := r.length) hr1 (by simp)
          simpa using this
        have T2 : ∀ a n c, vD = .slice a n c → RR w7 (.slice a r.length c) r := fun a n c e => by
          subst e
          obtain ⟨a', c', e', h1, h2, h3⟩ := id hr2
          simp only [Value.slice.injEq] at e'
          obtain ⟨rfl, rfl, rfl⟩ := e'
          have := RR.take (n := r.length) hr2 (by simp)
          simpa using this
        obtain ⟨a1, c1, f1, -, -, -⟩ := id hr1
        obtain ⟨a2, c2, f2, -, -, -⟩ := id hr2
        have t1 := T1 _ _ _ f1
        have t2 := T2 _ _ _ f2
        subst f1
        subst f2
        obtain ⟨b, o, p1, q1, b1, o1, rfl, m1, m2, m3, rfl, m4⟩ := hr1.last rfl
        obtain ⟨b', o', p2, q2, b2, o2, rfl, n1, n2, n3, rfl, n4⟩ := hr2.last rfl
        have hlen : (r ++ s ++ d).length = 2 * r.length + 3 := by simp only [List.length_append]; omega
        have hn9 : (r ++ s ++ d).length + 1 ≤ 100000 := by simp at hsh ⊢; omega
        have hh := hlp_le t
        have HZs := HZ.out
        rw [hal2]
        rw [m1] at m2 ⊢
        rw [n1] at n2 ⊢
        have CS := mkHid (fun (w : World) (hb : Below w7.heap.size w7 w) => same_any r r _ _ w (t1.later hb) (t2.later hb))
        rw [decide_eq_true rfl] at CS
        have HEQ : Hid (∀ k (h1 : k < A.length) (h2 : k < A2.length), eqT A[k] A2[k] = true) := fun k h1 h2 => (eqT_iff _ _).2 (er_at (by rw [HL.out, HL2.out, e1]) k h1 h2)
        have HAL2 := mkHid hal2
        rw [hal1] at e2 e3
        have hal9 : A.length ≤ 2000 := hAl
        obtain ⟨al, hal⟩ : ∃ al, A.length = al := ⟨_, rfl⟩
        have HAL := mkHid hal
        rw [hal] at hal9 e2 e3 ⊢
        generalize hH : hlp t = H at *
        have HCN : Hid ((cN D : Int) = ((cN D : Nat) : Int)) := rfl
        rw [e2, e3]
        rw [e2] at n4
        have hb1' : r.length ≤ c1 := by omega
        have hb2' : r.length ≤ c2 := by omega
        have hb3' : 2 * r.length + 3 ≤ c2 := by omega
        have hb5' : 2 * r.length + 4 ≤ 100000 := by omega
        rw [hlen] at n3 ⊢
        obtain ⟨n, hn⟩ : ∃ n, r.length = n := ⟨_, rfl⟩
        rw [hn] at hb1' hb2' hb3' hb5' m3 n3 CS ⊢
        obtain ⟨n2', hn2⟩ : ∃ n2', n2' = 2 * n + 3 := ⟨_, rfl⟩
        rw [← hn2] at n3 hb3' ⊢
        have hm1 : (((n2' + 1 : Nat) : Int) != 2 * (n : Int) + 4) = false := by simp; omega
        have hm2 : (((n2' : Nat) : Int) + 1 != 2 * (n : Int) + 4) = false := by simp; omega
        have hb4' : ((n2' : Nat) : Int) < ((n2' : Nat) : Int) + 1 := by omega
        have hb6' : n2' ≤ 100000 := by omega
        have hb7' : n ≤ 100000 := by omega
        clear m2 n2 hn2 hb5' hn9 m1 n1 k3 k4 k5 k6 T1 T2 t1 t2 hr1 hr2 hsh hlen hal hal1 hal2 hn hE e1 e2 e3 H2 HRR HRR2 HCN hH HZs HDD HZ
        have hal10 : al ≤ 9223372036854775807 := by omega
        have hww : wrap64 ((al : Int) + 2 * (H : Int) + 1 - (al : Int)) = wrap64 (wrap64 (2 * wrap64 ((al : Int) + (H : Int) - (al : Int))) + 1) := by
          unfold wrap64
          omega
        go_wp2_with fail
        clear HL HL2 hww hm1 hm2
        go_loopw [12] (fun i w' => ∃ (k : Nat) (x : Int), i = .int .i64 x ∧ x = k ∧ k ≤ al ∧ Hid (Below w7.heap.size w7 w')) (fun i _ => (al - intOf i).toNat)
        case atStart => exact ⟨0, 0, rfl, rfl, Nat.zero_le _, mkHid (Below.refl _ _)⟩
        case round =>
          obtain ⟨k, y, rfl, hyk, hk, BW⟩ := hrel
          obtain rfl : y = (k : Int) := hyk
          by_cases hlt : k < al
          · have h1 : k < A.length := by rw [HAL.out]; exact hlt
            have h2 : k < A2.length := by rw [HAL2.out]; exact h1
            obtain ⟨a1', c1', ea, -, ha⟩ := HA.out.later BW.out
            simp only [Value.slice.injEq, true_and] at ea
            obtain ⟨rfl, rfl⟩ := ea
            obtain ⟨a2', c2', eb, -, hb⟩ := HA2.out.later BW.out
            simp only [Value.slice.injEq, true_and] at eb
            obtain ⟨rfl, rfl⟩ := eb
            obtain ⟨ba, oa, rfl, -, fa⟩ := ha k h1
            obtain ⟨bb, ob, rfl, -, fb⟩ := hb k h2
            obtain ⟨ta, da⟩ := HAE.out A[k] (List.getElem_mem _)
            obtain ⟨tb, -, db⟩ := HAE2.out A2[k] (List.getElem_mem _)
            have bd := bdrew (Below.refl wr.heap.size wr)
            have CE := mkHid (rSame_any A[k] A2[k] wr.drew (((ta.later BW.out)).later bd) ((tb.later BW.out).later bd))
            rw [HEQ.out k h1 h2, decide_eq_true da, decide_eq_true db] at CE
            clear ha hb ta tb da db bd
            generalize A[k] = xa at *
            generalize A2[k] = xb at *
            clear h1 h2
            obtain ⟨g0, g1, g2, g3⟩ := fa
            obtain ⟨l0, l1, l2, l3⟩ := fb
            unfold Tm.val at CE
            have hk2 : (k : Int) < (al : Int) := by omega
            go_wp2_with fail
            go_region_held2 (fun w' => w'.cell? ⟨ba, oa + k * 4, none⟩ = some (.int .i64 xa.op) ∧ w'.cell? ⟨ba, oa + k * 4 + 1, none⟩ = some (.string xa.nm) ∧ w'.cell? ⟨ba, oa + k * 4 + 2, none⟩ = some (.int .i64 xa.n) ∧ w'.cell? ⟨ba, oa + k * 4 + 3, none⟩ = some (.slice xa.a xa.ks.length xa.c) ∧ w'.cell? ⟨bb, ob + k * 4, none⟩ = some (.int .i64 xb.op) ∧ w'.cell? ⟨bb, ob + k * 4 + 1, none⟩ = some (.string xb.nm) ∧ w'.cell? ⟨bb, ob + k * 4 + 2, none⟩ = some (.int .i64 xb.n) ∧ w'.cell? ⟨bb, ob + k * 4 + 3, none⟩ = some (.slice xb.a xb.ks.length xb.c)) (first | exact ⟨g0, g1, g2, g3, l0, l1, l2, l3⟩ | exact keep8 (w := wr.drew) ⟨g0, g1, g2, g3, l0, l1, l2, l3⟩ hb8) ((go_at_call 25; (with_reducible refine CE.out.mono ?_); rintro e w8 ⟨rfl, hb8⟩))
            go_wp2
            go_roundw
            case rel => exact ⟨k + 1, _, rfl, by omega, by omega, mkHid (bon (bdrew BW.out) hb8)⟩
            case measure => simp [intOf]; omega
          · obtain rfl : k = al := by omega
            have m3' := cell_later BW.out m3
            have m4' := cell_later BW.out m4
            have n3' := cell_later BW.out n3
            have n4' := cell_later BW.out n4
            clear HA HA2 HAE HAE2 HEQ m3 m4 n3 n4
            have n4c : wr.cell? ⟨b2, o2, none⟩ = some (.int .i64 ((k : Int) + 2 * (H : Int) + 1)) := by simpa using n4'
            have hs1 : IntKind.i64.wrap ((n : Int) + 1 - 1) = (n : Int) := by rw [IntKind.wrap_i64]; omega
            have hs2 : wrap64 ((n : Int) + 1 - 1) = (n : Int) := by unfold wrap64; omega
            have hs3 : IntKind.i64.wrap (n : Int) = (n : Int) := by rw [IntKind.wrap_i64]; omega
            have hs4 : wrap64 (n : Int) = (n : Int) := by unfold wrap64; omega
            have hs5 : IntKind.i64.wrap ((n2' : Int) + 1 - 1) = (n2' : Int) := by rw [IntKind.wrap_i64]; omega
            have hs6 : wrap64 ((n2' : Int) + 1 - 1) = (n2' : Int) := by unfold wrap64; omega
            have hs7 : IntKind.i64.wrap (n2' : Int) = (n2' : Int) := by rw [IntKind.wrap_i64]; omega
            have hs8 : wrap64 (n2' : Int) = (n2' : Int) := by unfold wrap64; omega
            clear n4' m3' m4'
            go_wp2_with fail
            (try dsimp only [List.append])
            go_region_held2 (fun w' => w'.cell? ⟨b', o' + n2', none⟩ = some (.slice (some ⟨b2, o2, none⟩) 1 q2) ∧ w'.cell? ⟨b2, o2, none⟩ = some (.int .i64 ((k : Int) + 2 * (H : Int) + 1))) (first | exact ⟨n3', n4c⟩ | exact ⟨cell_later (w := wr.drew) hb8 n3', cell_later (w := wr.drew) hb8 n4c⟩) ((go_at_call 39; (with_reducible refine (CS.out _ (bdrew BW.out)).mono ?_); rintro e w8 ⟨rfl, hb8⟩))
            go_wp2
            go_ret
            exact ⟨by simp, bon HB7.out (bon (bdrew BW.out) hb8)⟩
      · have hd1 : 90 < min 101 t.deep := by omega
        have HRC := HRR.out
        obtain ⟨aC, cc, rfl, -, -, -⟩ := HRC
        clear HRR HA HAE HL
        generalize min 101 t.deep = dd at *
        generalize (cC t).length = cl at *
        generalize cN t = nn at *
        generalize A.length = al at *
        clear hd
        go_wp2_with (go_at_call 20; ((with_reducible refine CD.out.mono ?_)); rintro e w5 ⟨rfl, hb5⟩)
        go_ret
        exact ⟨rfl, bon (bon HB3.out hb4) hb5⟩
    · have hz1 : 900 < min 2001 t.size := by omega
      have HRC := HRR.out
      obtain ⟨aC, cc, rfl, -, -, -⟩ := HRC
      clear HRR
      generalize min 2001 t.size = z at *
      generalize (cC t).length = cl at *
      generalize cN t = nn at *
      clear hz HA HAE HL
      generalize A.length = al at *
      go_wp2_with (go_at_call 18; ((with_reducible refine CZ.out.mono ?_)); rintro e w4 ⟨rfl, hb4⟩)
      go_ret
      exact ⟨rfl, bon HB3.out hb4⟩
  · have hne : ((cE t : Int) != 0) = true := by rw [bne_iff_ne]; omega
    have HRC := HRR.out
    obtain ⟨aC, cc, rfl, -, -, -⟩ := HRC
    clear HRR hE HA HAE HL
    generalize cE t = er at *
    generalize (cC t).length = cl at *
    generalize cN t = nn at *
    generalize A.length = al at *
    go_wp2
    go_ret
    exact ⟨rfl, HB3.out⟩
end Go.Proofs.YtpknhdhiajoomaaDoor
