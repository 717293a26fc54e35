/-
  CnfNot, walked: it returns true.
-/
import Derived.Test.YtpknhdhiajoomaaDoorCnL
import Derived.Deep.RegionHeld2
namespace Go.Proofs.YtpknhdhiajoomaaDoor
open Go.RowKit

/-- the last clause of a row -/
theorem RR.last {w : World} {a : Option Addr} {n c : Nat} {C r : List (List Int)} {x : Int} (h : RR w (.slice a n c) C) (e : C = r ++ [[x]]) : ∃ b o a1 c1 b1 o1, a = some ⟨b, o, none⟩ ∧ n = r.length + 1 ∧ n ≤ c ∧ w.cell? ⟨b, o + r.length, none⟩ = some (.slice a1 1 c1) ∧ a1 = some ⟨b1, o1, none⟩ ∧ w.cell? ⟨b1, o1, none⟩ = some (.int .i64 x) := by
  obtain ⟨a', c', e', hl, hc, h⟩ := h
  simp only [Value.slice.injEq] at e'
  obtain ⟨rfl, rfl, rfl⟩ := e'
  subst e
  have hi : r.length < (r ++ [[x]]).length := by simp
  obtain ⟨b, o, rr, ea, -, hr, a1, c1, er, -, hk⟩ := h r.length hi
  have e1 : (r ++ [[x]])[r.length] = [x] := by simp
  rw [e1] at er hk
  obtain ⟨b1, o1, ea1, -, hx⟩ := hk 0 (by simp)
  subst er
  exact ⟨b, o, a1, c1, b1, o1, ea, by simp, hc, hr, ea1, by simpa using hx⟩
set_option maxRecDepth 100000 in
set_option maxHeartbeats 8000000 in
theorem not_any (t : Tm) (w : World) (ht : TIn w w.heap.size t) (hS : Shps w) : Calls Tryd.prog 11 #[t.val] w (RetV (.bool true) w) := by
  have B0 := bel_alloc w (boxT t)
  have F1 := box_four w t
  have CH := mkHid (shown_any (w.alloc (boxT t)) (hS.later B0))
  have HS := mkHid (hS.later B0)
  have HT := mkHid (ht.later B0)
  have hW2 : w.alloc (.cells #[.int .i64 t.op, .string t.nm, .int .i64 t.n, .slice t.a t.ks.length t.c] 24) = w.alloc (boxT t) := rfl
  generalize w.alloc (boxT t) = W1 at *
  unfold Tm.val
  clear hS ht
  have HF1 := mkHid F1
  clear F1
  go_enter Tryd.func11, Tryd.ntmps11
  go_wp2_with fail
  ((with_reducible refine CH.out.mono ?_)); rintro e w2 ⟨rfl, hb2⟩
  clear CH hW2
  obtain ⟨x0, x1, x2, x3⟩ := HF1.out.later hb2
  simp only [Nat.zero_add] at x1 x2 x3
  have C1 := mkHid (clauses_any t w2 (HT.out.later hb2) (HS.out.later hb2))
  unfold Tm.val at C1
  have B2 := bon B0 hb2
  clear B0
  go_wp2_with fail
  ((with_reducible refine C1.out.mono ?_)); rintro e w3 ⟨vC, vA, A, us, F, base, rfl, hb3, -, -, -, hC, hA, hl⟩
  clear C1 x0 x1 x2 x3
  have hRR := hC.rr (cC_short t).1 (cC_short t).2
  obtain ⟨aA, ca, rfl, -, -, -⟩ := hA
  have b4 := bel_alloc w3 (boxT t)
  have g4 := box_four w3 t
  have HT4 := mkHid (((HT.out.later hb2).later hb3).later b4)
  have C2 := mkHid (clauses_any (q1 18 w3.heap.size t) (w3.alloc (boxT t)) (q1_in' (by decide) g4 HT4.out (by simp)) (((HS.out.later hb2).later hb3).later b4))
  have hv : (q1 18 w3.heap.size t).val = .agg #[.int .i64 18, .string ⟨#[]⟩, .int .i64 0, .slice (some ⟨w3.heap.size, 0, none⟩) 1 1] := rfl
  rw [hv] at C2
  have hN1 : (q1 18 w3.heap.size t).op = 18 := rfl
  have hN2 : (q1 18 w3.heap.size t).ks = [t] := rfl
  have HRR := mkHid (hRR.later b4)
  have HAl : Hid (A.length = (cA t).length) := by show _ = _; rw [← hl, List.length_map]
  obtain ⟨x0, x1, x2, x3⟩ := HF1.out.later (bon hb2 hb3)
  simp only [Nat.zero_add] at x1 x2 x3
  have hW4 : w3.alloc (.cells #[.int .i64 t.op, .string t.nm, .int .i64 t.n, .slice t.a t.ks.length t.c] 24) = w3.alloc (boxT t) := rfl
  have HB4 := mkHid (bon (bon B2 hb3) b4)
  have HNF := mkHid (And.intro hN1 hN2)
  clear hRR hC hl B2 hb2 hb3 b4 g4 hv hN1 hN2 HT4
  generalize q1 18 w3.heap.size t = N at *
  generalize w3.alloc (boxT t) = W4 at *
  go_wp2_with fail
  ((with_reducible refine C2.out.mono ?_)); rintro e w5 ⟨vD, vA2, A2, us2, F2, base2, rfl, hb5, -, -, -, hD, hA2, hl2⟩
  clear C2 x0 x1 x2 x3 hW4
  have HRR2 := mkHid (hD.rr (cC_short N).1 (cC_short N).2)
  obtain ⟨aA2, ca2, rfl, -, -, -⟩ := hA2
  have HAl2 : Hid (A2.length = (cA N).length) := by show _ = _; rw [← hl2, List.length_map]
  replace HRR := mkHid (HRR.out.later hb5)
  have HB5 := mkHid (bon HB4.out hb5)
  clear hD hl2 hb5 HB4
  by_cases hE : cE N = 0
  · have hE' := cE_not HNF.out.1 HNF.out.2 hE
    obtain ⟨k1, k2, r, x, k3, k4⟩ := cC_not HNF.out.1 HNF.out.2 hE
    have hr1 := HRR.out
    have hr2 := HRR2.out
    have hsh := (cC_short t).1
    rw [k3] at hr1 hsh
    rw [k4] at hr2
    have hal : A2.length = A.length := by rw [HAl2.out, HAl.out, k1]
    have hcn := cN_le t
    have hsz := (cE_small hE').1
    have hlb := cC_lb t [x] (by rw [k3]; simp) x (by simp)
    have T1 : ∀ a n c, vC = .slice a n c → RR w5 (.slice a r.length c) r := fun a n c e => by
      subst e
      obtain ⟨a', c', e', h1, h2, h3⟩ := id hr1
      simp only [Value.slice.injEq] at e'
      obtain ⟨rfl, rfl, rfl⟩ := e'
      have := RR.take (n := r.length) hr1 (by simp)
      simpa using this
    have T2 : ∀ a n c, vD = .slice a n c → RR w5 (.slice a r.length c) r := fun a n c e => by
      subst e
      obtain ⟨a', c', e', h1, h2, h3⟩ := id hr2
      simp only [Value.slice.injEq] at e'
      obtain ⟨rfl, rfl, rfl⟩ := e'
      have := RR.take (n := r.length) hr2 (by simp)
      simpa using this
    obtain ⟨a1, c1, e1, -, -, -⟩ := id hr1
    obtain ⟨a2, c2, e2, -, -, -⟩ := id hr2
    have t1 := T1 _ _ _ e1
    have t2 := T2 _ _ _ e2
    subst e1
    subst e2
    obtain ⟨b, o, p1, q1, b1, o1, rfl, m1, m2, m3, rfl, m4⟩ := hr1.last rfl
    obtain ⟨b', o', p2, q2, b2, o2, rfl, n1, n2, n3, rfl, n4⟩ := hr2.last rfl
    rw [hE, hE', k2, hal]
    rw [m1] at m2 ⊢
    rw [n1] at n2 ⊢
    have CS := mkHid (fun (w : World) (hb : Below w5.heap.size w5 w) => same_any r r _ _ w (t1.later hb) (t2.later hb))
    rw [decide_eq_true rfl] at CS
    have hx1 : -9223372036854775808 ≤ -x := by obtain ⟨h1, h2⟩ := hlb; omega
    have hx2 : -x ≤ 9223372036854775807 := by obtain ⟨h1, h2⟩ := hlb; omega
    have hr9 : r.length + 1 ≤ 9223372036854775807 := by simp at hsh; omega
    have hwr : IntKind.i64.wrap (-x) = -x := by rw [IntKind.wrap_i64]; omega
    have hb1' : r.length ≤ c1 := by omega
    have hb2' : r.length ≤ c2 := by omega
    have hb3' : (r.length : Int) < (r.length : Int) + 1 := by omega
    clear m1 n1 k3 k4 T1 T2 t1 t2 hr1 hr2 hsh hlb hal hcn hsz hE hE' k1 k2 HRR HRR2 HNF
    generalize r.length = n at *
    generalize cN t = nn at *
    generalize A.length = al at *
    go_wp2_with fail
    (try dsimp only [List.append])
    go_region_held2 (fun w' => w'.cell? ⟨b, o + n, none⟩ = some (.slice (some ⟨b1, o1, none⟩) 1 q1) ∧ w'.cell? ⟨b1, o1, none⟩ = some (.int .i64 x) ∧ w'.cell? ⟨b', o' + n, none⟩ = some (.slice (some ⟨b2, o2, none⟩) 1 q2) ∧ w'.cell? ⟨b2, o2, none⟩ = some (.int .i64 (-x))) (first | exact ⟨m3, m4, n3, n4⟩ | exact ⟨cell_later (w := w5.drew) hb6 m3, cell_later (w := w5.drew) hb6 m4, cell_later (w := w5.drew) hb6 n3, cell_later (w := w5.drew) hb6 n4⟩) ((go_at_call 39; (with_reducible refine (CS.out _ (bdrew (Below.refl w5.heap.size w5))).mono ?_); rintro e w6 ⟨rfl, hb6⟩))
    go_wp2
    go_ret
    exact ⟨by simp, bon HB5.out (bon (bdrew (Below.refl w5.heap.size w5)) hb6)⟩
  · have hne : ((cE N : Int) != 0) = true := by rw [bne_iff_ne]; omega
    generalize cE N = er at *
    clear HRR HRR2 HAl HAl2 HNF HF1 HS HT hE
    generalize (cC t).length = cl at *
    generalize (cC N).length = cl2 at *
    generalize cN t = n1 at *
    generalize cN N = n2 at *
    generalize A.length = al at *
    generalize A2.length = al2 at *
    generalize cE t = er2 at *
    cases h2 : ((er2 : Int) != 0)
    · go_wp2
      go_ret
      exact ⟨by simp, HB5.out⟩
    · go_wp2
      go_ret
      exact ⟨by simp, HB5.out⟩
end Go.Proofs.YtpknhdhiajoomaaDoor
