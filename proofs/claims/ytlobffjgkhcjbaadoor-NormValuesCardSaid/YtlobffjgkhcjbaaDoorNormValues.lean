/-
  NormValues, walked: it returns true.
-/
import Derived.Test.YtlobffjgkhcjbaaDoorNmN
import Derived.Test.YtlobffjgkhcjbaaDoorNmV
namespace Go.Proofs.YtlobffjgkhcjbaaDoor
open Go.RowKit Go.Shelf

/-- a value and an error are answered -/
def VE (s n : Int) (b : Bool) (k : Int) (w : World) (e : Ending) (w' : World) : Prop := ∃ aa cc, e = .returned (.tuple #[.agg #[.int .i64 s, .int .i64 n, .bool b, .slice aa 0 cc], .int .i64 k]) ∧ Below w.heap.size w w'
theorem ve_ok {W : Wd} {t : Tm} {w : World} {p : Bool} (hW : WIn w w.heap.size W) (ht : TIn w w.heap.size t) (hS : Shps w) (he : errR t = 0) (hr : rightB W = true) (h : ev W t = .ok (.b p)) : Calls Tryd.prog 41 #[t.val, W.val] w (VE 4 0 p 0 w) := by
  have c := eval_any W t w hW ht hS
  have e : evalR W t = .ok (.b p) := by unfold evalR; rw [if_pos he, if_pos hr]; exact h
  rw [e] at c
  exact c.mono fun e w' ⟨a, cc, h1, _, hb⟩ => ⟨a, cc, h1, hb⟩
theorem ve_err {W : Wd} {t : Tm} {w : World} {k : Int} (hW : WIn w w.heap.size W) (ht : TIn w w.heap.size t) (hS : Shps w) (he : errR t = 0) (hr : rightB W = true) (h : ev W t = .error k) : Calls Tryd.prog 41 #[t.val, W.val] w (VE 0 0 false k w) := by
  have c := eval_any W t w hW ht hS
  have e : evalR W t = .error k := by unfold evalR; rw [if_pos he, if_pos hr]; exact h
  rw [e] at c
  exact c.mono fun e w' ⟨h1, hb⟩ => ⟨none, 0, h1, hb⟩
theorem four_vl (w : World) (s n : Int) (b : Bool) (a : Option Addr) (c : Nat) : FourV (w.alloc (.cells #[.int .i64 s, .int .i64 n, .bool b, .slice a 0 c] 54)) w.heap.size (.int .i64 s) (.int .i64 n) (.bool b) (.slice a 0 c) := by simp [FourV, go_sem]
/-- what is in memory while the law runs -/
structure SV (X : Nat) (t : Tm) (W : Wd) (w : World) : Prop where
  bt : Four w X 0 t
  bw : TwoW w (X + 1) W
  tin : TIn w w.heap.size t
  win : WIn w w.heap.size W
  s : Shps w
theorem SV.later {X : Nat} {t : Tm} {W : Wd} {w w' : World} (h : SV X t W w) (hb : Below w.heap.size w w') : SV X t W w' := ⟨h.bt.later hb, h.bw.later hb, h.tin.later hb, h.win.later hb, h.s.later hb⟩
theorem SV.start {t : Tm} {W : Wd} {w : World} (ht : TIn w w.heap.size t) (hW : WIn w w.heap.size W) (hS : Shps w) : SV w.heap.size t W ((w.alloc (boxT t)).alloc (boxW W)) := by
  have hb : Below w.heap.size w ((w.alloc (boxT t)).alloc (boxW W)) := bal (bal (Below.refl _ _) _) _
  refine ⟨(box_four w t).later (bel_alloc _ _), ?_, ht.later hb, hW.later hb, hS.later hb⟩
  have := boxW_two (w.alloc (boxT t)) W
  simpa using this
set_option maxRecDepth 100000 in
set_option maxHeartbeats 4000000 in
theorem vals_no (t : Tm) (W : Wd) (w : World) (ht : TIn w w.heap.size t) (hW : WIn w w.heap.size W) (hS : Shps w) (hn : normE t ≠ 0) : Calls Tryd.prog 9 #[t.val, W.val] w (RetBo true w) := by
  have hb0 : Below w.heap.size w ((w.alloc (boxT t)).alloc (boxW W)) := bal (bal (Below.refl _ _) _) _
  have S1 := SV.start ht hW hS
  clear ht hW hS
  have CH := mkHid (shownN _ S1.s)
  have hW2 : (w.alloc (.cells #[.int .i64 t.op, .string t.nm, .int .i64 t.n, .slice t.a t.ks.length t.c] 24)).alloc (.cells #[.int .i64 W.nodes, .slice W.a W.l.length W.c] 50) = (w.alloc (boxT t)).alloc (boxW W) := rfl
  generalize (w.alloc (boxT t)).alloc (boxW W) = W1 at *
  have XS := mkHid S1
  clear S1
  have e0 : (((normE t : Nat) : Int) == 0) = false := by rw [beq_eq_false_iff_ne]; omega
  have e0p : ¬ ((normE t : Nat) : Int) = 0 := by omega
  have HN := mkHid hn
  clear hn
  unfold Tm.val Wd.val
  go_enter Tryd.func9, Tryd.ntmps9
  go_wp2_with fail
  ((with_reducible refine CH.out.mono ?_)); rintro e w2 ⟨rfl, D2⟩
  clear CH hW2
  obtain ⟨x0, x1, x2, x3⟩ := (XS.out.later D2).bt
  simp only [Nat.zero_add] at x1 x2 x3
  have C1 := mkHid (norm_any t w2 (XS.out.later D2).tin (XS.out.later D2).s)
  unfold Tm.val at C1
  go_wp2_with fail
  ((with_reducible refine C1.out.mono ?_)); rintro e w3 ⟨⟨z, rfl, zt, ze, -⟩, hb3⟩
  clear C1 x0 x1 x2 x3
  have HZE := mkHid ze
  have b3 := bel_alloc w3 (boxT z)
  have D3 := bon (bon D2 hb3) b3
  have f3 := box_four w3 z
  have hW3 : w3.alloc (.cells #[.int .i64 z.op, .string z.nm, .int .i64 z.n, .slice z.a z.ks.length z.c] 24) = w3.alloc (boxT z) := rfl
  have Iz := mkHid (zt.later b3)
  unfold Tm.val
  generalize w3.alloc (boxT z) = W3 at *
  have Fz := mkHid f3
  clear ze zt f3
  generalize ((normE t : Nat) : Int) = nv at *
  go_wp2
  go_ret
  exact ⟨rfl, bon hb0 D3⟩
set_option maxRecDepth 100000 in
set_option maxHeartbeats 4000000 in
theorem vals_wrong (t : Tm) (W : Wd) (w : World) (ht : TIn w w.heap.size t) (hW : WIn w w.heap.size W) (hS : Shps w) (hn : normE t = 0) (hr : rightB W = false) : Calls Tryd.prog 9 #[t.val, W.val] w (RetBo true w) := by
  have hb0 : Below w.heap.size w ((w.alloc (boxT t)).alloc (boxW W)) := bal (bal (Below.refl _ _) _) _
  have S1 := SV.start ht hW hS
  clear ht hW hS
  have CH := mkHid (shownN _ S1.s)
  have hW2 : (w.alloc (.cells #[.int .i64 t.op, .string t.nm, .int .i64 t.n, .slice t.a t.ks.length t.c] 24)).alloc (.cells #[.int .i64 W.nodes, .slice W.a W.l.length W.c] 50) = (w.alloc (boxT t)).alloc (boxW W) := rfl
  generalize (w.alloc (boxT t)).alloc (boxW W) = W1 at *
  have XS := mkHid S1
  clear S1
  have HNN := mkHid hn
  have HR := mkHid hr
  clear hn hr
  unfold Tm.val Wd.val
  go_enter Tryd.func9, Tryd.ntmps9
  go_wp2_with fail
  ((with_reducible refine CH.out.mono ?_)); rintro e w2 ⟨rfl, D2⟩
  clear CH hW2
  obtain ⟨x0, x1, x2, x3⟩ := (XS.out.later D2).bt
  simp only [Nat.zero_add] at x1 x2 x3
  have C1 := mkHid (norm_any t w2 (XS.out.later D2).tin (XS.out.later D2).s)
  unfold Tm.val at C1
  go_wp2_with fail
  ((with_reducible refine C1.out.mono ?_)); rintro e w3 ⟨⟨z, rfl, zt, ze, -⟩, hb3⟩
  clear C1 x0 x1 x2 x3
  have HZE := mkHid ze
  have b3 := bel_alloc w3 (boxT z)
  have D3 := bon (bon D2 hb3) b3
  have f3 := box_four w3 z
  have hW3 : w3.alloc (.cells #[.int .i64 z.op, .string z.nm, .int .i64 z.n, .slice z.a z.ks.length z.c] 24) = w3.alloc (boxT z) := rfl
  have Iz := mkHid (zt.later b3)
  unfold Tm.val
  generalize w3.alloc (boxT z) = W3 at *
  have Fz := mkHid f3
  clear ze zt f3
  rw [HNN.out]
  obtain ⟨w0, w1⟩ := (XS.out.later D3).bw
  have CR := mkHid (right_any W W3 (XS.out.later D3).win)
  rw [HR.out] at CR
  unfold Wd.val at CR
  go_wp2_with fail
  ((with_reducible refine CR.out.mono ?_)); rintro e w4 ⟨rfl, hb4⟩
  clear CR w0 w1 hW3
  go_wp2
  go_ret
  exact ⟨rfl, bon hb0 (bon D3 hb4)⟩
set_option maxRecDepth 100000 in
set_option maxHeartbeats 4000000 in
theorem vals_err (t : Tm) (W : Wd) (w : World) (ht : TIn w w.heap.size t) (hW : WIn w w.heap.size W) (hS : Shps w) (hn : normE t = 0) (hr : rightB W = true) {k1 k2 : Int} (h1 : k1 ≠ 0) (h2 : k2 ≠ 0) (E1 : ∀ w' : World, SV w.heap.size t W w' → Calls Tryd.prog 41 #[t.val, W.val] w' (VE 0 0 false k1 w')) (E2 : ∀ z : Tm, z.er = nn t false → errR z = 0 → ∀ w' : World, SV w.heap.size t W w' → TIn w' w'.heap.size z → Calls Tryd.prog 41 #[z.val, W.val] w' (VE 0 0 false k2 w')) : Calls Tryd.prog 9 #[t.val, W.val] w (RetBo true w) := by
  have hb0 : Below w.heap.size w ((w.alloc (boxT t)).alloc (boxW W)) := bal (bal (Below.refl _ _) _) _
  have S1 := SV.start ht hW hS
  clear ht hW hS
  have CH := mkHid (shownN _ S1.s)
  have hW2 : (w.alloc (.cells #[.int .i64 t.op, .string t.nm, .int .i64 t.n, .slice t.a t.ks.length t.c] 24)).alloc (.cells #[.int .i64 W.nodes, .slice W.a W.l.length W.c] 50) = (w.alloc (boxT t)).alloc (boxW W) := rfl
  generalize (w.alloc (boxT t)).alloc (boxW W) = W1 at *
  have XS := mkHid S1
  clear S1
  have HNN := mkHid hn
  have HR := mkHid hr
  clear hn hr
  have HE1 := mkHid E1
  have HE2 := mkHid E2
  clear E1 E2
  have e1 : (k1 == 0) = false := by rw [beq_eq_false_iff_ne]; exact h1
  have e2 : (k2 == 0) = false := by rw [beq_eq_false_iff_ne]; exact h2
  unfold Tm.val Wd.val
  go_enter Tryd.func9, Tryd.ntmps9
  go_wp2_with fail
  ((with_reducible refine CH.out.mono ?_)); rintro e w2 ⟨rfl, D2⟩
  clear CH hW2
  obtain ⟨x0, x1, x2, x3⟩ := (XS.out.later D2).bt
  simp only [Nat.zero_add] at x1 x2 x3
  have C1 := mkHid (norm_any t w2 (XS.out.later D2).tin (XS.out.later D2).s)
  unfold Tm.val at C1
  go_wp2_with fail
  ((with_reducible refine C1.out.mono ?_)); rintro e w3 ⟨⟨z, rfl, zt, ze, -⟩, hb3⟩
  clear C1 x0 x1 x2 x3
  have HZE := mkHid ze
  have b3 := bel_alloc w3 (boxT z)
  have D3 := bon (bon D2 hb3) b3
  have f3 := box_four w3 z
  have hW3 : w3.alloc (.cells #[.int .i64 z.op, .string z.nm, .int .i64 z.n, .slice z.a z.ks.length z.c] 24) = w3.alloc (boxT z) := rfl
  have Iz := mkHid (zt.later b3)
  unfold Tm.val
  generalize w3.alloc (boxT z) = W3 at *
  have Fz := mkHid f3
  clear ze zt f3
  rw [HNN.out]
  have HNF := mkHid (norm_facts HNN.out (HZE.out HNN.out))
  obtain ⟨w0, w1⟩ := (XS.out.later D3).bw
  have CR := mkHid (right_any W W3 (XS.out.later D3).win)
  rw [HR.out] at CR
  unfold Wd.val at CR
  go_wp2_with fail
  ((with_reducible refine CR.out.mono ?_)); rintro e w4 ⟨rfl, hb4⟩
  clear CR w0 w1 hW3
  have D4 := bon D3 hb4
  obtain ⟨w0, w1⟩ := (XS.out.later D4).bw
  obtain ⟨x0, x1, x2, x3⟩ := (XS.out.later D4).bt
  simp only [Nat.zero_add] at x1 x2 x3
  have CE := mkHid (HE1.out w4 (XS.out.later D4))
  unfold Tm.val Wd.val at CE
  go_wp2_with fail
  ((with_reducible refine CE.out.mono ?_)); rintro e w5 ⟨a1, c1, rfl, hb5⟩
  clear CE w0 w1 x0 x1 x2 x3
  have v5 := four_vl w5 0 0 false a1 c1
  have b5 := bel_alloc w5 (.cells #[.int .i64 0, .int .i64 0, .bool false, .slice a1 0 c1] 54)
  generalize h5 : w5.alloc (.cells #[.int .i64 0, .int .i64 0, .bool false, .slice a1 0 c1] 54) = W5 at *
  have D5 := bon (bon D4 hb5) b5
  have G5 := bon (bon hb4 hb5) b5
  obtain ⟨w0, w1⟩ := (XS.out.later D5).bw
  obtain ⟨z0, z1, z2, z3⟩ := Fz.out.later G5
  simp only [Nat.zero_add] at z1 z2 z3
  have CE := mkHid (HE2.out z (HZE.out HNN.out) HNF.out.2.2.2.2.2 W5 (XS.out.later D5) (Iz.out.later G5))
  unfold Tm.val Wd.val at CE
  have HV5 := mkHid v5
  clear v5
  go_wp2_with fail
  ((with_reducible refine CE.out.mono ?_)); rintro e w6 ⟨a2, c2, rfl, hb6⟩
  clear CE w0 w1 z0 z1 z2 z3 h5
  have v6 := four_vl w6 0 0 false a2 c2
  have b6 := bel_alloc w6 (.cells #[.int .i64 0, .int .i64 0, .bool false, .slice a2 0 c2] 54)
  generalize h6 : w6.alloc (.cells #[.int .i64 0, .int .i64 0, .bool false, .slice a2 0 c2] 54) = W6 at *
  obtain ⟨p0, p1, p2, p3, -⟩ := v6
  obtain ⟨o0, o1, o2, o3, -⟩ := HV5.out.later (bon hb6 b6)
  go_wp2
  go_ret
  exact ⟨rfl, bon hb0 (bon D5 (bon hb6 b6))⟩
set_option maxRecDepth 100000 in
set_option maxHeartbeats 4000000 in
theorem vals_ok (t : Tm) (W : Wd) (w : World) (ht : TIn w w.heap.size t) (hW : WIn w w.heap.size W) (hS : Shps w) (hn : normE t = 0) (hr : rightB W = true) {p : Bool} (E1 : ∀ w' : World, SV w.heap.size t W w' → Calls Tryd.prog 41 #[t.val, W.val] w' (VE 4 0 p 0 w')) (E2 : ∀ z : Tm, z.er = nn t false → errR z = 0 → ∀ w' : World, SV w.heap.size t W w' → TIn w' w'.heap.size z → Calls Tryd.prog 41 #[z.val, W.val] w' (VE 4 0 p 0 w')) : Calls Tryd.prog 9 #[t.val, W.val] w (RetBo true w) := by
  have hb0 : Below w.heap.size w ((w.alloc (boxT t)).alloc (boxW W)) := bal (bal (Below.refl _ _) _) _
  have S1 := SV.start ht hW hS
  clear ht hW hS
  have CH := mkHid (shownN _ S1.s)
  have hW2 : (w.alloc (.cells #[.int .i64 t.op, .string t.nm, .int .i64 t.n, .slice t.a t.ks.length t.c] 24)).alloc (.cells #[.int .i64 W.nodes, .slice W.a W.l.length W.c] 50) = (w.alloc (boxT t)).alloc (boxW W) := rfl
  generalize (w.alloc (boxT t)).alloc (boxW W) = W1 at *
  have XS := mkHid S1
  clear S1
  have HNN := mkHid hn
  have HR := mkHid hr
  clear hn hr
  have HE1 := mkHid E1
  have HE2 := mkHid E2
  clear E1 E2
  unfold Tm.val Wd.val
  go_enter Tryd.func9, Tryd.ntmps9
  go_wp2_with fail
  ((with_reducible refine CH.out.mono ?_)); rintro e w2 ⟨rfl, D2⟩
  clear CH hW2
  obtain ⟨x0, x1, x2, x3⟩ := (XS.out.later D2).bt
  simp only [Nat.zero_add] at x1 x2 x3
  have C1 := mkHid (norm_any t w2 (XS.out.later D2).tin (XS.out.later D2).s)
  unfold Tm.val at C1
  go_wp2_with fail
  ((with_reducible refine C1.out.mono ?_)); rintro e w3 ⟨⟨z, rfl, zt, ze, -⟩, hb3⟩
  clear C1 x0 x1 x2 x3
  have HZE := mkHid ze
  have b3 := bel_alloc w3 (boxT z)
  have D3 := bon (bon D2 hb3) b3
  have f3 := box_four w3 z
  have hW3 : w3.alloc (.cells #[.int .i64 z.op, .string z.nm, .int .i64 z.n, .slice z.a z.ks.length z.c] 24) = w3.alloc (boxT z) := rfl
  have Iz := mkHid (zt.later b3)
  unfold Tm.val
  generalize w3.alloc (boxT z) = W3 at *
  have Fz := mkHid f3
  clear ze zt f3
  rw [HNN.out]
  have HNF := mkHid (norm_facts HNN.out (HZE.out HNN.out))
  obtain ⟨w0, w1⟩ := (XS.out.later D3).bw
  have CR := mkHid (right_any W W3 (XS.out.later D3).win)
  rw [HR.out] at CR
  unfold Wd.val at CR
  go_wp2_with fail
  ((with_reducible refine CR.out.mono ?_)); rintro e w4 ⟨rfl, hb4⟩
  clear CR w0 w1 hW3
  have D4 := bon D3 hb4
  obtain ⟨w0, w1⟩ := (XS.out.later D4).bw
  obtain ⟨x0, x1, x2, x3⟩ := (XS.out.later D4).bt
  simp only [Nat.zero_add] at x1 x2 x3
  have CE := mkHid (HE1.out w4 (XS.out.later D4))
  unfold Tm.val Wd.val at CE
  go_wp2_with fail
  ((with_reducible refine CE.out.mono ?_)); rintro e w5 ⟨a1, c1, rfl, hb5⟩
  clear CE w0 w1 x0 x1 x2 x3
  have v5 := four_vl w5 4 0 p a1 c1
  have b5 := bel_alloc w5 (.cells #[.int .i64 4, .int .i64 0, .bool p, .slice a1 0 c1] 54)
  generalize h5 : w5.alloc (.cells #[.int .i64 4, .int .i64 0, .bool p, .slice a1 0 c1] 54) = W5 at *
  have D5 := bon (bon D4 hb5) b5
  have G5 := bon (bon hb4 hb5) b5
  obtain ⟨w0, w1⟩ := (XS.out.later D5).bw
  obtain ⟨z0, z1, z2, z3⟩ := Fz.out.later G5
  simp only [Nat.zero_add] at z1 z2 z3
  have CE := mkHid (HE2.out z (HZE.out HNN.out) HNF.out.2.2.2.2.2 W5 (XS.out.later D5) (Iz.out.later G5))
  unfold Tm.val Wd.val at CE
  have HV5 := mkHid v5
  clear v5
  go_wp2_with fail
  ((with_reducible refine CE.out.mono ?_)); rintro e w6 ⟨a2, c2, rfl, hb6⟩
  clear CE w0 w1 z0 z1 z2 z3 h5
  have v6 := four_vl w6 4 0 p a2 c2
  have b6 := bel_alloc w6 (.cells #[.int .i64 4, .int .i64 0, .bool p, .slice a2 0 c2] 54)
  generalize h6 : w6.alloc (.cells #[.int .i64 4, .int .i64 0, .bool p, .slice a2 0 c2] 54) = W6 at *
  obtain ⟨p0, p1, p2, p3, -⟩ := v6
  obtain ⟨o0, o1, o2, o3, -⟩ := HV5.out.later (bon hb6 b6)
  go_wp2
  go_ret
  exact ⟨rfl, bon hb0 (bon D5 (bon hb6 b6))⟩
theorem values_any (t : Tm) (W : Wd) (w : World) (ht : TIn w w.heap.size t) (hW : WIn w w.heap.size W) (hS : Shps w) : Calls Tryd.prog 9 #[t.val, W.val] w (RetBo true w) := by
  by_cases hn : normE t = 0
  · cases hr : rightB W with
    | false => exact vals_wrong t W w ht hW hS hn hr
    | true =>
      have hR := right_rt hr hW
      obtain ⟨h1, h4, -⟩ := normE_zero hn
      have ag := nn_ev hR t h4 ht false
      have ez : ∀ z : Tm, z.er = nn t false → ev W z = ev W (nn t false) := fun z h => by rw [← er_ev, h]
      rcases ag with ⟨e, e', a1, a2⟩ | ⟨p, a1, a2⟩
      · have hty := ev_ty hR t ht (by omega)
        rw [a1] at hty
        have k1 : e = 4 ∨ e = 5 := hty
        have hne : e ≠ 0 := by omega
        by_cases hne' : e' = 0
        · -- no error is 0: what is made would be no error of its own
          refine vals_err t W w ht hW hS hn hr (k1 := e) (k2 := 4) hne (by decide) (fun w' h => ve_err h.win h.tin h.s h1 hr a1) (fun z hz he w' h hi => ?_)
          have hty' := ev_ty hR z hi (by rw [← er_srt, hz, nn_srt t h4 false]; decide)
          rw [ez z hz, a2] at hty'
          have k2 : e' = 4 ∨ e' = 5 := hty'
          omega
        · exact vals_err t W w ht hW hS hn hr (k1 := e) (k2 := e') hne hne' (fun w' h => ve_err h.win h.tin h.s h1 hr a1) (fun z hz he w' h hi => ve_err h.win hi h.s he hr (by rw [ez z hz]; exact a2))
      · rw [Bool.xor_false] at a2
        exact vals_ok t W w ht hW hS hn hr (p := p) (fun w' h => ve_ok h.win h.tin h.s h1 hr a1) (fun z hz he w' h hi => ve_ok h.win hi h.s he hr (by rw [ez z hz]; exact a2))
  · exact vals_no t W w ht hW hS hn
end Go.Proofs.YtlobffjgkhcjbaaDoor
