/-
  EvalLaws, of two terms of one sort: it returns true.
-/
import Derived.Test.YtlbknhedpjaelaaDoorEvR
import Derived.Test.YtlbknhedpjaelaaDoorEvLawA
namespace Go.Proofs.YtlbknhedpjaelaaDoor
open Go.RowKit Go.Shelf
def lwIW (V : World) (t u : Tm) : World := ((((V.alloc (.cells #[.int .i64 t.op, .string t.nm, .int .i64 t.n, .slice t.a t.ks.length t.c, .int .i64 u.op, .string u.nm, .int .i64 u.n, .slice u.a u.ks.length u.c] 24)).alloc (.cells #[.int .i64 20, .string ⟨#[]⟩, .int .i64 0, .slice (some ⟨V.heap.size + 1 + 1 + 1, 0, none⟩) 2 2] 24)).alloc (.cells #[.int .i64 u.op, .string u.nm, .int .i64 u.n, .slice u.a u.ks.length u.c, .int .i64 t.op, .string t.nm, .int .i64 t.n, .slice t.a t.ks.length t.c] 24)).alloc (.cells #[.int .i64 22, .string ⟨#[]⟩, .int .i64 0, .slice (some ⟨V.heap.size, 0, none⟩) 2 2, .int .i64 23, .string ⟨#[]⟩, .int .i64 0, .slice (some ⟨V.heap.size + 1 + 1, 0, none⟩) 2 2] 24))
theorem lwIW_below (V : World) (t u : Tm) : Below V.heap.size V (lwIW V t u) := bal (bal (bal (bal (Below.refl _ _) _) _) _) _
theorem lwI_call {X : Nat} {t u : Tm} {W : Wd} {V : World} (S : SL X t u W V) (L : Lw W 1 t u) {v1 v2 : Vv} (h1 : ev W t = .ok v1) (h2 : ev W u = .ok v2) (y1 : Ty W 1 v1) (y2 : Ty W 1 v2) :
    Calls Tryd.prog 31 #[.agg #[.int .i64 20, .string ⟨#[]⟩, .int .i64 0, .slice (some ⟨V.heap.size + 1 + 1 + 1, 0, none⟩) 2 2], W.val] (lwIW V t u) (RetVE (.b true) (lwIW V t u)) := by
  have HB := lwIW_below V t u
  have HT := S.tin.later HB
  have HU := S.uin.later HB
  have F00 : Four (lwIW V t u) (V.heap.size) 0 t := by simp [Four, lwIW, go_sem]
  have F01 : Four (lwIW V t u) (V.heap.size) 4 u := by simp [Four, lwIW, go_sem]
  have F20 : Four (lwIW V t u) (V.heap.size + 1 + 1) 0 u := by simp [Four, lwIW, go_sem]
  have F21 : Four (lwIW V t u) (V.heap.size + 1 + 1) 4 t := by simp [Four, lwIW, go_sem]
  have F30 : Four (lwIW V t u) (V.heap.size + 1 + 1 + 1) 0 (t2 22 (V.heap.size) t u) := by simp [Four, lwIW, t2, Tm.op, Tm.nm, Tm.n, Tm.a, Tm.ks, Tm.c, go_sem]
  have F31 : Four (lwIW V t u) (V.heap.size + 1 + 1 + 1) 4 (t2 23 (V.heap.size + 1 + 1) u t) := by simp [Four, lwIW, t2, Tm.op, Tm.nm, Tm.n, Tm.a, Tm.ks, Tm.c, go_sem]
  have := eval_any W (lwI (V.heap.size) (V.heap.size + 1 + 1) (V.heap.size + 1 + 1 + 1) t u) _ (S.win.later HB) (tin2 (by decide) F30 F31 (tin2 (by decide) F00 F01 HT HU (four_lt F00)) (tin2 (by decide) F20 F21 HU HT (four_lt F20)) (four_lt F30)) (S.s.later HB)
  rw [lwI_val L h1 h2 y1 y2] at this
  exact this
set_option maxRecDepth 100000 in
set_option maxHeartbeats 4000000 in
theorem lawsI (t u : Tm) (W : Wd) (w : World) (ht : TIn w w.heap.size t) (hu : TIn w w.heap.size u) (hW : WIn w w.heap.size W) (hS : Shps w) (h1 : errR t = 0) (h2 : errR u = 0) (L : Lw W 1 t u) (v1 v2 : Vv) (hvt : evalR W t = .ok v1) (hvu : evalR W u = .ok v2) (y1 : Ty W 1 v1) (y2 : Ty W 1 v2) :
    Calls Tryd.prog 6 #[t.val, u.val, W.val] w (RetB true w) := by
  have e1 : srtR t = 1 := by rw [(errR_zero h1).2.2.2]; exact L.st
  have e2 : srtR u = 1 := by rw [(errR_zero h2).2.2.2]; exact L.su
  have h3 : srtR t = srtR u := by rw [e1, e2]
  have h4 := L.r
  have h5 := L.zt
  have h6 := L.zu
  have h7 := L.dt
  have h8 := L.du
  have S0 := SL.start ht hu hW hS
  have B0 := slW_below t u W w
  have SC := mkHid (shownE _ S0.s)
  have hzt : t.size ≤ 2000 := by omega
  have hzu : u.size ≤ 2000 := by omega
  have ST := mkHid (fun w' (h : SL w.heap.size t u W w') => sort_any t w' h.tin h.s)
  have SU := mkHid (fun w' (h : SL w.heap.size t u W w') => sort_any u w' h.uin h.s)
  have RT := mkHid (fun w' (h : SL w.heap.size t u W w') => right_any W w' h.win)
  have ZT := mkHid (fun w' (h : SL w.heap.size t u W w') => size_any t w' h.tin)
  have ZU := mkHid (fun w' (h : SL w.heap.size t u W w') => size_any u w' h.uin)
  have DT := mkHid (fun w' (h : SL w.heap.size t u W w') => deep_small t w' h.tin hzt)
  have DU := mkHid (fun w' (h : SL w.heap.size t u W w') => deep_small u w' h.uin hzu)
  have ET := mkHid (fun w' (h : SL w.heap.size t u W w') => anyV hvt h.win h.tin h.s)
  have EU := mkHid (fun w' (h : SL w.heap.size t u W w') => anyV hvu h.win h.uin h.s)
  rw [h1] at ST
  rw [h2, e2] at SU
  rw [e1] at ST
  clear h1 h2 h3 e1 e2
  have hdt : t.deep ≤ 100 := by omega
  rw [h4] at RT
  clear h4
  have d5 : decide ((200 : Int) < ((min 2001 t.size : Nat) : Int)) = false := by simp; omega
  have d6 : decide ((200 : Int) < ((min 2001 u.size : Nat) : Int)) = false := by simp; omega
  have d7 : decide ((80 : Int) < ((min 101 t.deep : Nat) : Int)) = false := by simp; omega
  have d8 : decide ((80 : Int) < ((min 101 u.deep : Nat) : Int)) = false := by simp; omega
  clear h5 h6 h7 h8
  generalize min 2001 t.size = z5 at *
  generalize min 2001 u.size = z6 at *
  generalize min 101 t.deep = z7 at *
  generalize min 101 u.deep = z8 at *
  have hW0 : ((w.alloc (.cells #[.int .i64 t.op, .string t.nm, .int .i64 t.n, .slice t.a t.ks.length t.c] 24)).alloc (.cells #[.int .i64 u.op, .string u.nm, .int .i64 u.n, .slice u.a u.ks.length u.c] 24)).alloc (.cells #[.int .i64 W.nodes, .slice W.a W.l.length W.c] 38) = slW t u W w := rfl
  generalize slW t u W w = W0 at *
  unfold Tm.val at ST SU ZT ZU DT DU ET EU ⊢
  unfold Wd.val at RT ET EU ⊢
  clear ht hu hW hS hzt hzu
  go_enter Tryd.func6, Tryd.ntmps6
  go_wp2_with fail
  ((with_reducible refine SC.out.mono ?_)); rintro e w1 ⟨rfl, hb1⟩
  have S1 := S0.later hb1
  have B1 := bon B0 hb1
  clear SC hW0 S0
  obtain ⟨u0, u1, u2, u3⟩ := S1.bt
  simp only [Nat.zero_add] at u1 u2 u3
  go_wp2_with fail
  ((with_reducible refine (ST.out _ S1).mono ?_)); rintro e w2 ⟨rfl, hb2⟩
  have S2 := S1.later hb2
  have B2 := bon B1 hb2
  clear u0 u1 u2 u3 ST S1 B1 hb2
  obtain ⟨u0, u1, u2, u3⟩ := S2.bu
  simp only [Nat.zero_add] at u1 u2 u3
  go_wp2_with fail
  ((with_reducible refine (SU.out _ S2).mono ?_)); rintro e w3 ⟨rfl, hb3⟩
  have S3 := S2.later hb3
  have B3 := bon B2 hb3
  clear u0 u1 u2 u3 SU S2 B2 hb3
  obtain ⟨p0, p1⟩ := S3.bw
  go_wp2_with fail
  ((with_reducible refine (RT.out _ S3).mono ?_)); rintro e w4 ⟨rfl, hb4⟩
  have S4 := S3.later hb4
  have B4 := bon B3 hb4
  clear p0 p1 RT S3 B3 hb4
  obtain ⟨u0, u1, u2, u3⟩ := S4.bt
  simp only [Nat.zero_add] at u1 u2 u3
  go_wp2_with fail
  ((with_reducible refine (ZT.out _ S4).mono ?_)); rintro e w5 ⟨rfl, hb5⟩
  have S5 := S4.later hb5
  have B5 := bon B4 hb5
  clear u0 u1 u2 u3 ZT S4 B4 hb5
  obtain ⟨u0, u1, u2, u3⟩ := S5.bu
  simp only [Nat.zero_add] at u1 u2 u3
  go_wp2_with fail
  ((with_reducible refine (ZU.out _ S5).mono ?_)); rintro e w6 ⟨rfl, hb6⟩
  have S6 := S5.later hb6
  have B6 := bon B5 hb6
  clear u0 u1 u2 u3 ZU S5 B5 hb6
  obtain ⟨u0, u1, u2, u3⟩ := S6.bt
  simp only [Nat.zero_add] at u1 u2 u3
  go_wp2_with fail
  ((with_reducible refine (DT.out _ S6).mono ?_)); rintro e w7 ⟨rfl, hb7⟩
  have S7 := S6.later hb7
  have B7 := bon B6 hb7
  clear u0 u1 u2 u3 DT S6 B6 hb7
  obtain ⟨u0, u1, u2, u3⟩ := S7.bu
  simp only [Nat.zero_add] at u1 u2 u3
  go_wp2_with fail
  ((with_reducible refine (DU.out _ S7).mono ?_)); rintro e w8 ⟨rfl, hb8⟩
  have S8 := S7.later hb8
  have B8 := bon B7 hb8
  clear u0 u1 u2 u3 DU S7 B7 hb8
  obtain ⟨u0, u1, u2, u3⟩ := S8.bt
  simp only [Nat.zero_add] at u1 u2 u3
  obtain ⟨p0, p1⟩ := S8.bw
  go_wp2_with fail
  ((with_reducible refine (ET.out _ S8).mono ?_)); rintro e w9 ⟨so8, nn8, bb8, aa8, ln8, cc8, rfl, hb9⟩
  clear u0 u1 u2 u3 p0 p1 ET
  have hc9 := bon hb9 (bel_alloc w9 (.cells #[.int .i64 so8, .int .i64 nn8, .bool bb8, .slice aa8 ln8 cc8] 41))
  have S9 := S8.later hc9
  have B9 := bon B8 hc9
  clear S8 B8 hc9
  generalize hV8 : w9.alloc (.cells #[.int .i64 so8, .int .i64 nn8, .bool bb8, .slice aa8 ln8 cc8] 41) = V9 at *
  obtain ⟨u0, u1, u2, u3⟩ := S9.bu
  simp only [Nat.zero_add] at u1 u2 u3
  obtain ⟨p0, p1⟩ := S9.bw
  go_wp2_with fail
  ((with_reducible refine (EU.out _ S9).mono ?_)); rintro e w10 ⟨so9, nn9, bb9, aa9, ln9, cc9, rfl, hb10⟩
  clear u0 u1 u2 u3 p0 p1 EU
  have hc10 := bon hb10 (bel_alloc w10 (.cells #[.int .i64 so9, .int .i64 nn9, .bool bb9, .slice aa9 ln9 cc9] 41))
  have S10 := S9.later hc10
  have B10 := bon B9 hc10
  clear S9 B9 hc10
  (try clear hV8)
  generalize hV9 : w10.alloc (.cells #[.int .i64 so9, .int .i64 nn9, .bool bb9, .slice aa9 ln9 cc9] 41) = V10 at *
  have CE := mkHid (lwI_call S10 L (ev_of_evalR hvt) (ev_of_evalR hvu) y1 y2)
  have BE := lwIW_below V10 t u
  have hdt2 : decide (t.deep ≤ 100) = true := decide_eq_true hdt
  have SM := mkHid (fun w' (h : SL w.heap.size t u W w') => rSame_any t t w' h.tin h.tin)
  rw [hdt2, eqT_self] at SM
  unfold Wd.val lwIW at CE
  unfold Tm.val at SM
  obtain ⟨u0, u1, u2, u3⟩ := S10.bt
  obtain ⟨q0, q1, q2, q3⟩ := S10.bu
  obtain ⟨p0, p1⟩ := S10.bw
  simp only [Nat.zero_add] at u1 u2 u3 q1 q2 q3
  have l0 := World.block_lt_of_cell? _ _ u0
  have l1 := World.block_lt_of_cell? _ _ q0
  have l2 := World.block_lt_of_cell? _ _ p0
  simp only at l0 l1 l2
  have ma1 : w.heap.size < V10.heap.size + 1 := by omega
  have ma2 : w.heap.size < V10.heap.size + 1 + 1 := by omega
  have ma3 : w.heap.size < V10.heap.size + 1 + 1 + 1 := by omega
  have ma4 : w.heap.size < V10.heap.size + 1 + 1 + 1 + 1 := by omega
  have mb1 : w.heap.size + 1 < V10.heap.size + 1 := by omega
  have mb2 : w.heap.size + 1 < V10.heap.size + 1 + 1 := by omega
  have mb3 : w.heap.size + 1 < V10.heap.size + 1 + 1 + 1 := by omega
  have mb4 : w.heap.size + 1 < V10.heap.size + 1 + 1 + 1 + 1 := by omega
  have mc1 : w.heap.size + 1 + 1 < V10.heap.size + 1 := by omega
  have mc2 : w.heap.size + 1 + 1 < V10.heap.size + 1 + 1 := by omega
  have mc3 : w.heap.size + 1 + 1 < V10.heap.size + 1 + 1 + 1 := by omega
  have mc4 : w.heap.size + 1 + 1 < V10.heap.size + 1 + 1 + 1 + 1 := by omega
  clear L hvt hvu y1 y2 hdt hdt2 d5 d6 d7 d8
  go_wp2_with fail
  ((with_reducible refine CE.out.mono ?_)); rintro e w12 ⟨a12, c12, rfl, -, hb12⟩
  simp only [Vv.sort, Vv.n, Vv.bb, Vv.l, List.length_nil]
  have b13 := bon BE (bon hb12 (bel_alloc w12 (.cells #[.int .i64 4, .int .i64 0, .bool true, .slice a12 0 c12] 41)))
  have S13 := S10.later b13
  have B13 := bon B10 b13
  have V1 : FourV (w12.alloc (.cells #[.int .i64 4, .int .i64 0, .bool true, .slice a12 0 c12] 41)) w12.heap.size (.int .i64 4) (.int .i64 0) (.bool true) (.slice a12 0 c12) := by simp [FourV, go_sem]
  clear u0 u1 u2 u3 q0 q1 q2 q3 p0 p1 hV9 CE ma1 ma2 ma3 ma4 mb1 mb2 mb3 mb4 mc1 mc2 mc3 mc4 l0 l1 l2
  generalize hW13 : w12.alloc (.cells #[.int .i64 4, .int .i64 0, .bool true, .slice a12 0 c12] 41) = W13 at *
  obtain ⟨u0, u1, u2, u3⟩ := S13.bt
  simp only [Nat.zero_add] at u1 u2 u3
  obtain ⟨x0, x1, x2, x3, -⟩ := V1
  go_wp2_with fail
  ((with_reducible refine (SM.out _ S13).mono ?_)); rintro e w14 ⟨rfl, hb14⟩
  have B14 := bon B13 hb14
  go_wp2
  go_ret
  exact ⟨rfl, B14⟩
end Go.Proofs.YtlbknhedpjaelaaDoor
