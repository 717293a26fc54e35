/-
  EvalLaws, where it ends early: it returns true.
-/
import Derived.Test.YtlbknhedpjaelaaDoorEvR
import Derived.Test.YtlbknhedpjaelaaDoorTmT
namespace Go.Proofs.YtlbknhedpjaelaaDoor
open Go.RowKit Go.Shelf
/-- what lies in memory while EvalLaws runs -/
structure SL (X : Nat) (t u : Tm) (W : Wd) (w : World) : Prop where
  bt : Four w X 0 t
  bu : Four w (X + 1) 0 u
  bw : TwoW w (X + 1 + 1) W
  tin : TIn w w.heap.size t
  uin : TIn w w.heap.size u
  win : WIn w w.heap.size W
  s : Shps w
theorem SL.later {X : Nat} {t u : Tm} {W : Wd} {w w' : World} (h : SL X t u W w) (hb : Below w.heap.size w w') : SL X t u W w' := ⟨h.bt.later hb, h.bu.later hb, h.bw.later hb, h.tin.later hb, h.uin.later hb, h.win.later hb, h.s.later hb⟩
def slW (t u : Tm) (W : Wd) (w : World) : World := ((w.alloc (boxT t)).alloc (boxT u)).alloc (boxW W)
theorem slW_below (t u : Tm) (W : Wd) (w : World) : Below w.heap.size w (slW t u W w) := bal (bal (bal (Below.refl _ _) _) _) _
theorem SL.start {t u : Tm} {W : Wd} {w : World} (ht : TIn w w.heap.size t) (hu : TIn w w.heap.size u) (hW : WIn w w.heap.size W) (hS : Shps w) : SL w.heap.size t u W (slW t u W w) := by
  have hb := slW_below t u W w
  refine ⟨((box_four w t).later (bel_alloc _ _)).later (bel_alloc _ _), ?_, ?_, ht.later hb, hu.later hb, hW.later hb, hS.later hb⟩
  · have := (box_four (w.alloc (boxT t)) u).later (bel_alloc _ (boxW W))
    simpa [slW] using this
  · have := boxW_two ((w.alloc (boxT t)).alloc (boxT u)) W
    simpa [slW] using this
/-- Eval answers a value, whatever it is -/
def AnyV (w : World) (e : Ending) (w' : World) : Prop := ∃ (so nn : Int) (bb : Bool) (a : Option Addr) (n c : Nat), e = .returned (.tuple #[.agg #[.int .i64 so, .int .i64 nn, .bool bb, .slice a n c], .int .i64 0]) ∧ Below w.heap.size w w'
theorem anyV {W : Wd} {t : Tm} {v : Vv} {w : World} (h : evalR W t = .ok v) (hW : WIn w w.heap.size W) (ht : TIn w w.heap.size t) (hS : Shps w) : Calls Tryd.prog 31 #[t.val, W.val] w (AnyV w) := by
  have := eval_any W t w hW ht hS
  rw [h] at this
  exact this.mono fun e w' ⟨a, c, he, _, hb⟩ => ⟨_, _, _, a, _, c, he, hb⟩
theorem ev_of_evalR {W : Wd} {t : Tm} {v : Vv} (h : evalR W t = .ok v) : ev W t = .ok v := by
  unfold evalR at h
  split at h
  · split at h
    · exact h
    · cases h
  · cases h
theorem anyE {W : Wd} {t : Tm} {k : Int} {w : World} (h : evalR W t = .error k) (hW : WIn w w.heap.size W) (ht : TIn w w.heap.size t) (hS : Shps w) : Calls Tryd.prog 31 #[t.val, W.val] w (RetE k w) := by
  have := eval_any W t w hW ht hS
  rw [h] at this
  exact this
set_option maxRecDepth 100000 in
set_option maxHeartbeats 4000000 in
theorem laws1 (t u : Tm) (W : Wd) (w : World) (ht : TIn w w.heap.size t) (hu : TIn w w.heap.size u) (hW : WIn w w.heap.size W) (hS : Shps w) (h1 : errR t ≠ 0) :
    Calls Tryd.prog 6 #[t.val, u.val, W.val] w (RetB true w) := by
  have S0 := SL.start ht hu hW hS
  have B0 := slW_below t u W w
  have SC := mkHid (shownE _ S0.s)
  have ST := mkHid (fun w' (h : SL w.heap.size t u W w') => sort_any t w' h.tin h.s)
  have SU := mkHid (fun w' (h : SL w.heap.size t u W w') => sort_any u w' h.uin h.s)
  have hne : ((errR t : Int) != 0) = true := by rw [bne_iff_ne]; omega
  clear h1
  generalize errR t = e1 at *
  generalize errR u = e2 at *
  generalize srtR t = r1 at *
  generalize srtR u = r2 at *
  have hW0 : ((w.alloc (.cells #[.int .i64 t.op, .string t.nm, .int .i64 t.n, .slice t.a t.ks.length t.c] 24)).alloc (.cells #[.int .i64 u.op, .string u.nm, .int .i64 u.n, .slice u.a u.ks.length u.c] 24)).alloc (.cells #[.int .i64 W.nodes, .slice W.a W.l.length W.c] 38) = slW t u W w := rfl
  generalize slW t u W w = W0 at *
  unfold Tm.val at ST SU ⊢
  unfold Wd.val at ⊢
  clear ht hu hW hS
  go_enter Tryd.func6, Tryd.ntmps6
  go_wp2_with fail
  ((with_reducible refine SC.out.mono ?_)); rintro e w1 ⟨rfl, hb1⟩
  have S1 := S0.later hb1
  have B1 := bon B0 hb1
  clear SC hW0 S0
  obtain ⟨u0, u1, u2, u3⟩ := S1.bt
  simp only [Nat.zero_add] at u1 u2 u3
  go_wp2_with fail
  ((with_reducible refine (ST.out _ S1).mono ?_)); rintro e w2 ⟨rfl, hb2⟩
  have S2 := S1.later hb2
  have B2 := bon B1 hb2
  clear u0 u1 u2 u3 ST S1 B1 hb2
  obtain ⟨u0, u1, u2, u3⟩ := S2.bu
  simp only [Nat.zero_add] at u1 u2 u3
  go_wp2_with fail
  ((with_reducible refine (SU.out _ S2).mono ?_)); rintro e w3 ⟨rfl, hb3⟩
  have S3 := S2.later hb3
  have B3 := bon B2 hb3
  clear u0 u1 u2 u3 SU S2 B2 hb3
  go_wp2
  go_ret
  exact ⟨rfl, B3⟩
set_option maxRecDepth 100000 in
set_option maxHeartbeats 4000000 in
theorem laws2 (t u : Tm) (W : Wd) (w : World) (ht : TIn w w.heap.size t) (hu : TIn w w.heap.size u) (hW : WIn w w.heap.size W) (hS : Shps w) (h1 : errR t = 0) (h2 : errR u ≠ 0) :
    Calls Tryd.prog 6 #[t.val, u.val, W.val] w (RetB true w) := by
  have S0 := SL.start ht hu hW hS
  have B0 := slW_below t u W w
  have SC := mkHid (shownE _ S0.s)
  have ST := mkHid (fun w' (h : SL w.heap.size t u W w') => sort_any t w' h.tin h.s)
  have SU := mkHid (fun w' (h : SL w.heap.size t u W w') => sort_any u w' h.uin h.s)
  have hne : ((errR u : Int) != 0) = true := by rw [bne_iff_ne]; omega
  rw [h1] at ST
  clear h1 h2
  generalize errR u = e2 at *
  generalize srtR t = r1 at *
  generalize srtR u = r2 at *
  have hW0 : ((w.alloc (.cells #[.int .i64 t.op, .string t.nm, .int .i64 t.n, .slice t.a t.ks.length t.c] 24)).alloc (.cells #[.int .i64 u.op, .string u.nm, .int .i64 u.n, .slice u.a u.ks.length u.c] 24)).alloc (.cells #[.int .i64 W.nodes, .slice W.a W.l.length W.c] 38) = slW t u W w := rfl
  generalize slW t u W w = W0 at *
  unfold Tm.val at ST SU ⊢
  unfold Wd.val at ⊢
  clear ht hu hW hS
  go_enter Tryd.func6, Tryd.ntmps6
  go_wp2_with fail
  ((with_reducible refine SC.out.mono ?_)); rintro e w1 ⟨rfl, hb1⟩
  have S1 := S0.later hb1
  have B1 := bon B0 hb1
  clear SC hW0 S0
  obtain ⟨u0, u1, u2, u3⟩ := S1.bt
  simp only [Nat.zero_add] at u1 u2 u3
  go_wp2_with fail
  ((with_reducible refine (ST.out _ S1).mono ?_)); rintro e w2 ⟨rfl, hb2⟩
  have S2 := S1.later hb2
  have B2 := bon B1 hb2
  clear u0 u1 u2 u3 ST S1 B1 hb2
  obtain ⟨u0, u1, u2, u3⟩ := S2.bu
  simp only [Nat.zero_add] at u1 u2 u3
  go_wp2_with fail
  ((with_reducible refine (SU.out _ S2).mono ?_)); rintro e w3 ⟨rfl, hb3⟩
  have S3 := S2.later hb3
  have B3 := bon B2 hb3
  clear u0 u1 u2 u3 SU S2 B2 hb3
  go_wp2
  go_ret
  exact ⟨rfl, B3⟩
set_option maxRecDepth 100000 in
set_option maxHeartbeats 4000000 in
theorem laws3 (t u : Tm) (W : Wd) (w : World) (ht : TIn w w.heap.size t) (hu : TIn w w.heap.size u) (hW : WIn w w.heap.size W) (hS : Shps w) (h1 : errR t = 0) (h2 : errR u = 0) (h3 : srtR t ≠ srtR u) :
    Calls Tryd.prog 6 #[t.val, u.val, W.val] w (RetB true w) := by
  have S0 := SL.start ht hu hW hS
  have B0 := slW_below t u W w
  have SC := mkHid (shownE _ S0.s)
  have ST := mkHid (fun w' (h : SL w.heap.size t u W w') => sort_any t w' h.tin h.s)
  have SU := mkHid (fun w' (h : SL w.heap.size t u W w') => sort_any u w' h.uin h.s)
  have hne : ((srtR t : Int) != (srtR u : Int)) = true := by rw [bne_iff_ne]; omega
  rw [h1] at ST
  rw [h2] at SU
  clear h1 h2 h3
  generalize srtR t = r1 at *
  generalize srtR u = r2 at *
  have hW0 : ((w.alloc (.cells #[.int .i64 t.op, .string t.nm, .int .i64 t.n, .slice t.a t.ks.length t.c] 24)).alloc (.cells #[.int .i64 u.op, .string u.nm, .int .i64 u.n, .slice u.a u.ks.length u.c] 24)).alloc (.cells #[.int .i64 W.nodes, .slice W.a W.l.length W.c] 38) = slW t u W w := rfl
  generalize slW t u W w = W0 at *
  unfold Tm.val at ST SU ⊢
  unfold Wd.val at ⊢
  clear ht hu hW hS
  go_enter Tryd.func6, Tryd.ntmps6
  go_wp2_with fail
  ((with_reducible refine SC.out.mono ?_)); rintro e w1 ⟨rfl, hb1⟩
  have S1 := S0.later hb1
  have B1 := bon B0 hb1
  clear SC hW0 S0
  obtain ⟨u0, u1, u2, u3⟩ := S1.bt
  simp only [Nat.zero_add] at u1 u2 u3
  go_wp2_with fail
  ((with_reducible refine (ST.out _ S1).mono ?_)); rintro e w2 ⟨rfl, hb2⟩
  have S2 := S1.later hb2
  have B2 := bon B1 hb2
  clear u0 u1 u2 u3 ST S1 B1 hb2
  obtain ⟨u0, u1, u2, u3⟩ := S2.bu
  simp only [Nat.zero_add] at u1 u2 u3
  go_wp2_with fail
  ((with_reducible refine (SU.out _ S2).mono ?_)); rintro e w3 ⟨rfl, hb3⟩
  have S3 := S2.later hb3
  have B3 := bon B2 hb3
  clear u0 u1 u2 u3 SU S2 B2 hb3
  go_wp2
  go_ret
  exact ⟨rfl, B3⟩
set_option maxRecDepth 100000 in
set_option maxHeartbeats 4000000 in
theorem laws4 (t u : Tm) (W : Wd) (w : World) (ht : TIn w w.heap.size t) (hu : TIn w w.heap.size u) (hW : WIn w w.heap.size W) (hS : Shps w) (h1 : errR t = 0) (h2 : errR u = 0) (h3 : srtR t = srtR u) (h4 : rightB W = false) :
    Calls Tryd.prog 6 #[t.val, u.val, W.val] w (RetB true w) := by
  have S0 := SL.start ht hu hW hS
  have B0 := slW_below t u W w
  have SC := mkHid (shownE _ S0.s)
  have ST := mkHid (fun w' (h : SL w.heap.size t u W w') => sort_any t w' h.tin h.s)
  have SU := mkHid (fun w' (h : SL w.heap.size t u W w') => sort_any u w' h.uin h.s)
  have RT := mkHid (fun w' (h : SL w.heap.size t u W w') => right_any W w' h.win)
  rw [h1] at ST
  rw [h2, ← h3] at SU
  clear h1 h2 h3
  generalize srtR t = r1 at *
  have hne : ((r1 : Int) != (r1 : Int)) = false := by simp
  rw [h4] at RT
  clear h4
  have hW0 : ((w.alloc (.cells #[.int .i64 t.op, .string t.nm, .int .i64 t.n, .slice t.a t.ks.length t.c] 24)).alloc (.cells #[.int .i64 u.op, .string u.nm, .int .i64 u.n, .slice u.a u.ks.length u.c] 24)).alloc (.cells #[.int .i64 W.nodes, .slice W.a W.l.length W.c] 38) = slW t u W w := rfl
  generalize slW t u W w = W0 at *
  unfold Tm.val at ST SU ⊢
  unfold Wd.val at RT ⊢
  clear ht hu hW hS
  go_enter Tryd.func6, Tryd.ntmps6
  go_wp2_with fail
  ((with_reducible refine SC.out.mono ?_)); rintro e w1 ⟨rfl, hb1⟩
  have S1 := S0.later hb1
  have B1 := bon B0 hb1
  clear SC hW0 S0
  obtain ⟨u0, u1, u2, u3⟩ := S1.bt
  simp only [Nat.zero_add] at u1 u2 u3
  go_wp2_with fail
  ((with_reducible refine (ST.out _ S1).mono ?_)); rintro e w2 ⟨rfl, hb2⟩
  have S2 := S1.later hb2
  have B2 := bon B1 hb2
  clear u0 u1 u2 u3 ST S1 B1 hb2
  obtain ⟨u0, u1, u2, u3⟩ := S2.bu
  simp only [Nat.zero_add] at u1 u2 u3
  go_wp2_with fail
  ((with_reducible refine (SU.out _ S2).mono ?_)); rintro e w3 ⟨rfl, hb3⟩
  have S3 := S2.later hb3
  have B3 := bon B2 hb3
  clear u0 u1 u2 u3 SU S2 B2 hb3
  obtain ⟨p0, p1⟩ := S3.bw
  go_wp2_with fail
  ((with_reducible refine (RT.out _ S3).mono ?_)); rintro e w4 ⟨rfl, hb4⟩
  have S4 := S3.later hb4
  have B4 := bon B3 hb4
  clear p0 p1 RT S3 B3 hb4
  go_wp2
  go_ret
  exact ⟨rfl, B4⟩
set_option maxRecDepth 100000 in
set_option maxHeartbeats 4000000 in
theorem laws5 (t u : Tm) (W : Wd) (w : World) (ht : TIn w w.heap.size t) (hu : TIn w w.heap.size u) (hW : WIn w w.heap.size W) (hS : Shps w) (h1 : errR t = 0) (h2 : errR u = 0) (h3 : srtR t = srtR u) (h4 : rightB W = true) (h5 : 200 < t.size) :
    Calls Tryd.prog 6 #[t.val, u.val, W.val] w (RetB true w) := by
  have S0 := SL.start ht hu hW hS
  have B0 := slW_below t u W w
  have SC := mkHid (shownE _ S0.s)
  have ST := mkHid (fun w' (h : SL w.heap.size t u W w') => sort_any t w' h.tin h.s)
  have SU := mkHid (fun w' (h : SL w.heap.size t u W w') => sort_any u w' h.uin h.s)
  have RT := mkHid (fun w' (h : SL w.heap.size t u W w') => right_any W w' h.win)
  have ZT := mkHid (fun w' (h : SL w.heap.size t u W w') => size_any t w' h.tin)
  rw [h1] at ST
  rw [h2, ← h3] at SU
  clear h1 h2 h3
  generalize srtR t = r1 at *
  have hne : ((r1 : Int) != (r1 : Int)) = false := by simp
  rw [h4] at RT
  clear h4
  have d5 : decide ((200 : Int) < ((min 2001 t.size : Nat) : Int)) = true := by simp; omega
  clear h5
  generalize min 2001 t.size = z5 at *
  have hW0 : ((w.alloc (.cells #[.int .i64 t.op, .string t.nm, .int .i64 t.n, .slice t.a t.ks.length t.c] 24)).alloc (.cells #[.int .i64 u.op, .string u.nm, .int .i64 u.n, .slice u.a u.ks.length u.c] 24)).alloc (.cells #[.int .i64 W.nodes, .slice W.a W.l.length W.c] 38) = slW t u W w := rfl
  generalize slW t u W w = W0 at *
  unfold Tm.val at ST SU ZT ⊢
  unfold Wd.val at RT ⊢
  clear ht hu hW hS
  go_enter Tryd.func6, Tryd.ntmps6
  go_wp2_with fail
  ((with_reducible refine SC.out.mono ?_)); rintro e w1 ⟨rfl, hb1⟩
  have S1 := S0.later hb1
  have B1 := bon B0 hb1
  clear SC hW0 S0
  obtain ⟨u0, u1, u2, u3⟩ := S1.bt
  simp only [Nat.zero_add] at u1 u2 u3
  go_wp2_with fail
  ((with_reducible refine (ST.out _ S1).mono ?_)); rintro e w2 ⟨rfl, hb2⟩
  have S2 := S1.later hb2
  have B2 := bon B1 hb2
  clear u0 u1 u2 u3 ST S1 B1 hb2
  obtain ⟨u0, u1, u2, u3⟩ := S2.bu
  simp only [Nat.zero_add] at u1 u2 u3
  go_wp2_with fail
  ((with_reducible refine (SU.out _ S2).mono ?_)); rintro e w3 ⟨rfl, hb3⟩
  have S3 := S2.later hb3
  have B3 := bon B2 hb3
  clear u0 u1 u2 u3 SU S2 B2 hb3
  obtain ⟨p0, p1⟩ := S3.bw
  go_wp2_with fail
  ((with_reducible refine (RT.out _ S3).mono ?_)); rintro e w4 ⟨rfl, hb4⟩
  have S4 := S3.later hb4
  have B4 := bon B3 hb4
  clear p0 p1 RT S3 B3 hb4
  obtain ⟨u0, u1, u2, u3⟩ := S4.bt
  simp only [Nat.zero_add] at u1 u2 u3
  go_wp2_with fail
  ((with_reducible refine (ZT.out _ S4).mono ?_)); rintro e w5 ⟨rfl, hb5⟩
  have S5 := S4.later hb5
  have B5 := bon B4 hb5
  clear u0 u1 u2 u3 ZT S4 B4 hb5
  go_wp2
  go_ret
  exact ⟨rfl, B5⟩
set_option maxRecDepth 100000 in
set_option maxHeartbeats 4000000 in
theorem laws6 (t u : Tm) (W : Wd) (w : World) (ht : TIn w w.heap.size t) (hu : TIn w w.heap.size u) (hW : WIn w w.heap.size W) (hS : Shps w) (h1 : errR t = 0) (h2 : errR u = 0) (h3 : srtR t = srtR u) (h4 : rightB W = true) (h5 : t.size ≤ 200) (h6 : 200 < u.size) :
    Calls Tryd.prog 6 #[t.val, u.val, W.val] w (RetB true w) := by
  have S0 := SL.start ht hu hW hS
  have B0 := slW_below t u W w
  have SC := mkHid (shownE _ S0.s)
  have ST := mkHid (fun w' (h : SL w.heap.size t u W w') => sort_any t w' h.tin h.s)
  have SU := mkHid (fun w' (h : SL w.heap.size t u W w') => sort_any u w' h.uin h.s)
  have RT := mkHid (fun w' (h : SL w.heap.size t u W w') => right_any W w' h.win)
  have ZT := mkHid (fun w' (h : SL w.heap.size t u W w') => size_any t w' h.tin)
  have ZU := mkHid (fun w' (h : SL w.heap.size t u W w') => size_any u w' h.uin)
  rw [h1] at ST
  rw [h2, ← h3] at SU
  clear h1 h2 h3
  generalize srtR t = r1 at *
  have hne : ((r1 : Int) != (r1 : Int)) = false := by simp
  rw [h4] at RT
  clear h4
  have d5 : decide ((200 : Int) < ((min 2001 t.size : Nat) : Int)) = false := by simp; omega
  have d6 : decide ((200 : Int) < ((min 2001 u.size : Nat) : Int)) = true := by simp; omega
  clear h5 h6
  generalize min 2001 t.size = z5 at *
  generalize min 2001 u.size = z6 at *
  have hW0 : ((w.alloc (.cells #[.int .i64 t.op, .string t.nm, .int .i64 t.n, .slice t.a t.ks.length t.c] 24)).alloc (.cells #[.int .i64 u.op, .string u.nm, .int .i64 u.n, .slice u.a u.ks.length u.c] 24)).alloc (.cells #[.int .i64 W.nodes, .slice W.a W.l.length W.c] 38) = slW t u W w := rfl
  generalize slW t u W w = W0 at *
  unfold Tm.val at ST SU ZT ZU ⊢
  unfold Wd.val at RT ⊢
  clear ht hu hW hS
  go_enter Tryd.func6, Tryd.ntmps6
  go_wp2_with fail
  ((with_reducible refine SC.out.mono ?_)); rintro e w1 ⟨rfl, hb1⟩
  have S1 := S0.later hb1
  have B1 := bon B0 hb1
  clear SC hW0 S0
  obtain ⟨u0, u1, u2, u3⟩ := S1.bt
  simp only [Nat.zero_add] at u1 u2 u3
  go_wp2_with fail
  ((with_reducible refine (ST.out _ S1).mono ?_)); rintro e w2 ⟨rfl, hb2⟩
  have S2 := S1.later hb2
  have B2 := bon B1 hb2
  clear u0 u1 u2 u3 ST S1 B1 hb2
  obtain ⟨u0, u1, u2, u3⟩ := S2.bu
  simp only [Nat.zero_add] at u1 u2 u3
  go_wp2_with fail
  ((with_reducible refine (SU.out _ S2).mono ?_)); rintro e w3 ⟨rfl, hb3⟩
  have S3 := S2.later hb3
  have B3 := bon B2 hb3
  clear u0 u1 u2 u3 SU S2 B2 hb3
  obtain ⟨p0, p1⟩ := S3.bw
  go_wp2_with fail
  ((with_reducible refine (RT.out _ S3).mono ?_)); rintro e w4 ⟨rfl, hb4⟩
  have S4 := S3.later hb4
  have B4 := bon B3 hb4
  clear p0 p1 RT S3 B3 hb4
  obtain ⟨u0, u1, u2, u3⟩ := S4.bt
  simp only [Nat.zero_add] at u1 u2 u3
  go_wp2_with fail
  ((with_reducible refine (ZT.out _ S4).mono ?_)); rintro e w5 ⟨rfl, hb5⟩
  have S5 := S4.later hb5
  have B5 := bon B4 hb5
  clear u0 u1 u2 u3 ZT S4 B4 hb5
  obtain ⟨u0, u1, u2, u3⟩ := S5.bu
  simp only [Nat.zero_add] at u1 u2 u3
  go_wp2_with fail
  ((with_reducible refine (ZU.out _ S5).mono ?_)); rintro e w6 ⟨rfl, hb6⟩
  have S6 := S5.later hb6
  have B6 := bon B5 hb6
  clear u0 u1 u2 u3 ZU S5 B5 hb6
  go_wp2
  go_ret
  exact ⟨rfl, B6⟩
set_option maxRecDepth 100000 in
set_option maxHeartbeats 4000000 in
theorem laws7 (t u : Tm) (W : Wd) (w : World) (ht : TIn w w.heap.size t) (hu : TIn w w.heap.size u) (hW : WIn w w.heap.size W) (hS : Shps w) (h1 : errR t = 0) (h2 : errR u = 0) (h3 : srtR t = srtR u) (h4 : rightB W = true) (h5 : t.size ≤ 200) (h6 : u.size ≤ 200) (h7 : 80 < t.deep) :
    Calls Tryd.prog 6 #[t.val, u.val, W.val] w (RetB true w) := by
  have S0 := SL.start ht hu hW hS
  have B0 := slW_below t u W w
  have SC := mkHid (shownE _ S0.s)
  have hzt : t.size ≤ 2000 := by omega
  have hzu : u.size ≤ 2000 := by omega
  have ST := mkHid (fun w' (h : SL w.heap.size t u W w') => sort_any t w' h.tin h.s)
  have SU := mkHid (fun w' (h : SL w.heap.size t u W w') => sort_any u w' h.uin h.s)
  have RT := mkHid (fun w' (h : SL w.heap.size t u W w') => right_any W w' h.win)
  have ZT := mkHid (fun w' (h : SL w.heap.size t u W w') => size_any t w' h.tin)
  have ZU := mkHid (fun w' (h : SL w.heap.size t u W w') => size_any u w' h.uin)
  have DT := mkHid (fun w' (h : SL w.heap.size t u W w') => deep_small t w' h.tin hzt)
  rw [h1] at ST
  rw [h2, ← h3] at SU
  clear h1 h2 h3
  generalize srtR t = r1 at *
  have hne : ((r1 : Int) != (r1 : Int)) = false := by simp
  rw [h4] at RT
  clear h4
  have d5 : decide ((200 : Int) < ((min 2001 t.size : Nat) : Int)) = false := by simp; omega
  have d6 : decide ((200 : Int) < ((min 2001 u.size : Nat) : Int)) = false := by simp; omega
  have d7 : decide ((80 : Int) < ((min 101 t.deep : Nat) : Int)) = true := by simp; omega
  clear h5 h6 h7
  generalize min 2001 t.size = z5 at *
  generalize min 2001 u.size = z6 at *
  generalize min 101 t.deep = z7 at *
  have hW0 : ((w.alloc (.cells #[.int .i64 t.op, .string t.nm, .int .i64 t.n, .slice t.a t.ks.length t.c] 24)).alloc (.cells #[.int .i64 u.op, .string u.nm, .int .i64 u.n, .slice u.a u.ks.length u.c] 24)).alloc (.cells #[.int .i64 W.nodes, .slice W.a W.l.length W.c] 38) = slW t u W w := rfl
  generalize slW t u W w = W0 at *
  unfold Tm.val at ST SU ZT ZU DT ⊢
  unfold Wd.val at RT ⊢
  clear ht hu hW hS hzt hzu
  go_enter Tryd.func6, Tryd.ntmps6
  go_wp2_with fail
  ((with_reducible refine SC.out.mono ?_)); rintro e w1 ⟨rfl, hb1⟩
  have S1 := S0.later hb1
  have B1 := bon B0 hb1
  clear SC hW0 S0
  obtain ⟨u0, u1, u2, u3⟩ := S1.bt
  simp only [Nat.zero_add] at u1 u2 u3
  go_wp2_with fail
  ((with_reducible refine (ST.out _ S1).mono ?_)); rintro e w2 ⟨rfl, hb2⟩
  have S2 := S1.later hb2
  have B2 := bon B1 hb2
  clear u0 u1 u2 u3 ST S1 B1 hb2
  obtain ⟨u0, u1, u2, u3⟩ := S2.bu
  simp only [Nat.zero_add] at u1 u2 u3
  go_wp2_with fail
  ((with_reducible refine (SU.out _ S2).mono ?_)); rintro e w3 ⟨rfl, hb3⟩
  have S3 := S2.later hb3
  have B3 := bon B2 hb3
  clear u0 u1 u2 u3 SU S2 B2 hb3
  obtain ⟨p0, p1⟩ := S3.bw
  go_wp2_with fail
  ((with_reducible refine (RT.out _ S3).mono ?_)); rintro e w4 ⟨rfl, hb4⟩
  have S4 := S3.later hb4
  have B4 := bon B3 hb4
  clear p0 p1 RT S3 B3 hb4
  obtain ⟨u0, u1, u2, u3⟩ := S4.bt
  simp only [Nat.zero_add] at u1 u2 u3
  go_wp2_with fail
  ((with_reducible refine (ZT.out _ S4).mono ?_)); rintro e w5 ⟨rfl, hb5⟩
  have S5 := S4.later hb5
  have B5 := bon B4 hb5
  clear u0 u1 u2 u3 ZT S4 B4 hb5
  obtain ⟨u0, u1, u2, u3⟩ := S5.bu
  simp only [Nat.zero_add] at u1 u2 u3
  go_wp2_with fail
  ((with_reducible refine (ZU.out _ S5).mono ?_)); rintro e w6 ⟨rfl, hb6⟩
  have S6 := S5.later hb6
  have B6 := bon B5 hb6
  clear u0 u1 u2 u3 ZU S5 B5 hb6
  obtain ⟨u0, u1, u2, u3⟩ := S6.bt
  simp only [Nat.zero_add] at u1 u2 u3
  go_wp2_with fail
  ((with_reducible refine (DT.out _ S6).mono ?_)); rintro e w7 ⟨rfl, hb7⟩
  have S7 := S6.later hb7
  have B7 := bon B6 hb7
  clear u0 u1 u2 u3 DT S6 B6 hb7
  go_wp2
  go_ret
  exact ⟨rfl, B7⟩
set_option maxRecDepth 100000 in
set_option maxHeartbeats 4000000 in
theorem laws8 (t u : Tm) (W : Wd) (w : World) (ht : TIn w w.heap.size t) (hu : TIn w w.heap.size u) (hW : WIn w w.heap.size W) (hS : Shps w) (h1 : errR t = 0) (h2 : errR u = 0) (h3 : srtR t = srtR u) (h4 : rightB W = true) (h5 : t.size ≤ 200) (h6 : u.size ≤ 200) (h7 : t.deep ≤ 80) (h8 : 80 < u.deep) :
    Calls Tryd.prog 6 #[t.val, u.val, W.val] w (RetB true w) := by
  have S0 := SL.start ht hu hW hS
  have B0 := slW_below t u W w
  have SC := mkHid (shownE _ S0.s)
  have hzt : t.size ≤ 2000 := by omega
  have hzu : u.size ≤ 2000 := by omega
  have ST := mkHid (fun w' (h : SL w.heap.size t u W w') => sort_any t w' h.tin h.s)
  have SU := mkHid (fun w' (h : SL w.heap.size t u W w') => sort_any u w' h.uin h.s)
  have RT := mkHid (fun w' (h : SL w.heap.size t u W w') => right_any W w' h.win)
  have ZT := mkHid (fun w' (h : SL w.heap.size t u W w') => size_any t w' h.tin)
  have ZU := mkHid (fun w' (h : SL w.heap.size t u W w') => size_any u w' h.uin)
  have DT := mkHid (fun w' (h : SL w.heap.size t u W w') => deep_small t w' h.tin hzt)
  have DU := mkHid (fun w' (h : SL w.heap.size t u W w') => deep_small u w' h.uin hzu)
  rw [h1] at ST
  rw [h2, ← h3] at SU
  clear h1 h2 h3
  generalize srtR t = r1 at *
  have hne : ((r1 : Int) != (r1 : Int)) = false := by simp
  rw [h4] at RT
  clear h4
  have d5 : decide ((200 : Int) < ((min 2001 t.size : Nat) : Int)) = false := by simp; omega
  have d6 : decide ((200 : Int) < ((min 2001 u.size : Nat) : Int)) = false := by simp; omega
  have d7 : decide ((80 : Int) < ((min 101 t.deep : Nat) : Int)) = false := by simp; omega
  have d8 : decide ((80 : Int) < ((min 101 u.deep : Nat) : Int)) = true := by simp; omega
  clear h5 h6 h7 h8
  generalize min 2001 t.size = z5 at *
  generalize min 2001 u.size = z6 at *
  generalize min 101 t.deep = z7 at *
  generalize min 101 u.deep = z8 at *
  have hW0 : ((w.alloc (.cells #[.int .i64 t.op, .string t.nm, .int .i64 t.n, .slice t.a t.ks.length t.c] 24)).alloc (.cells #[.int .i64 u.op, .string u.nm, .int .i64 u.n, .slice u.a u.ks.length u.c] 24)).alloc (.cells #[.int .i64 W.nodes, .slice W.a W.l.length W.c] 38) = slW t u W w := rfl
  generalize slW t u W w = W0 at *
  unfold Tm.val at ST SU ZT ZU DT DU ⊢
  unfold Wd.val at RT ⊢
  clear ht hu hW hS hzt hzu
  go_enter Tryd.func6, Tryd.ntmps6
  go_wp2_with fail
  ((with_reducible refine SC.out.mono ?_)); rintro e w1 ⟨rfl, hb1⟩
  have S1 := S0.later hb1
  have B1 := bon B0 hb1
  clear SC hW0 S0
  obtain ⟨u0, u1, u2, u3⟩ := S1.bt
  simp only [Nat.zero_add] at u1 u2 u3
  go_wp2_with fail
  ((with_reducible refine (ST.out _ S1).mono ?_)); rintro e w2 ⟨rfl, hb2⟩
  have S2 := S1.later hb2
  have B2 := bon B1 hb2
  clear u0 u1 u2 u3 ST S1 B1 hb2
  obtain ⟨u0, u1, u2, u3⟩ := S2.bu
  simp only [Nat.zero_add] at u1 u2 u3
  go_wp2_with fail
  ((with_reducible refine (SU.out _ S2).mono ?_)); rintro e w3 ⟨rfl, hb3⟩
  have S3 := S2.later hb3
  have B3 := bon B2 hb3
  clear u0 u1 u2 u3 SU S2 B2 hb3
  obtain ⟨p0, p1⟩ := S3.bw
  go_wp2_with fail
  ((with_reducible refine (RT.out _ S3).mono ?_)); rintro e w4 ⟨rfl, hb4⟩
  have S4 := S3.later hb4
  have B4 := bon B3 hb4
  clear p0 p1 RT S3 B3 hb4
  obtain ⟨u0, u1, u2, u3⟩ := S4.bt
  simp only [Nat.zero_add] at u1 u2 u3
  go_wp2_with fail
  ((with_reducible refine (ZT.out _ S4).mono ?_)); rintro e w5 ⟨rfl, hb5⟩
  have S5 := S4.later hb5
  have B5 := bon B4 hb5
  clear u0 u1 u2 u3 ZT S4 B4 hb5
  obtain ⟨u0, u1, u2, u3⟩ := S5.bu
  simp only [Nat.zero_add] at u1 u2 u3
  go_wp2_with fail
  ((with_reducible refine (ZU.out _ S5).mono ?_)); rintro e w6 ⟨rfl, hb6⟩
  have S6 := S5.later hb6
  have B6 := bon B5 hb6
  clear u0 u1 u2 u3 ZU S5 B5 hb6
  obtain ⟨u0, u1, u2, u3⟩ := S6.bt
  simp only [Nat.zero_add] at u1 u2 u3
  go_wp2_with fail
  ((with_reducible refine (DT.out _ S6).mono ?_)); rintro e w7 ⟨rfl, hb7⟩
  have S7 := S6.later hb7
  have B7 := bon B6 hb7
  clear u0 u1 u2 u3 DT S6 B6 hb7
  obtain ⟨u0, u1, u2, u3⟩ := S7.bu
  simp only [Nat.zero_add] at u1 u2 u3
  go_wp2_with fail
  ((with_reducible refine (DU.out _ S7).mono ?_)); rintro e w8 ⟨rfl, hb8⟩
  have S8 := S7.later hb8
  have B8 := bon B7 hb8
  clear u0 u1 u2 u3 DU S7 B7 hb8
  go_wp2
  go_ret
  exact ⟨rfl, B8⟩
set_option maxRecDepth 100000 in
set_option maxHeartbeats 4000000 in
theorem laws9 (t u : Tm) (W : Wd) (w : World) (ht : TIn w w.heap.size t) (hu : TIn w w.heap.size u) (hW : WIn w w.heap.size W) (hS : Shps w) (h1 : errR t = 0) (h2 : errR u = 0) (h3 : srtR t = srtR u) (h4 : rightB W = true) (h5 : t.size ≤ 200) (h6 : u.size ≤ 200) (h7 : t.deep ≤ 80) (h8 : u.deep ≤ 80) (k : Int) (hk : k ≠ 0) (hvt : evalR W t = .error k) (EUc : ∀ w', SL w.heap.size t u W w' → Calls Tryd.prog 31 #[u.val, W.val] w' fun e w'' => ∃ (so nn : Int) (bb : Bool) (a : Option Addr) (n c : Nat) (k2 : Int), e = .returned (.tuple #[.agg #[.int .i64 so, .int .i64 nn, .bool bb, .slice a n c], .int .i64 k2]) ∧ Below w'.heap.size w' w'') :
    Calls Tryd.prog 6 #[t.val, u.val, W.val] w (RetB true w) := by
  have S0 := SL.start ht hu hW hS
  have B0 := slW_below t u W w
  have SC := mkHid (shownE _ S0.s)
  have hzt : t.size ≤ 2000 := by omega
  have hzu : u.size ≤ 2000 := by omega
  have ST := mkHid (fun w' (h : SL w.heap.size t u W w') => sort_any t w' h.tin h.s)
  have SU := mkHid (fun w' (h : SL w.heap.size t u W w') => sort_any u w' h.uin h.s)
  have RT := mkHid (fun w' (h : SL w.heap.size t u W w') => right_any W w' h.win)
  have ZT := mkHid (fun w' (h : SL w.heap.size t u W w') => size_any t w' h.tin)
  have ZU := mkHid (fun w' (h : SL w.heap.size t u W w') => size_any u w' h.uin)
  have DT := mkHid (fun w' (h : SL w.heap.size t u W w') => deep_small t w' h.tin hzt)
  have DU := mkHid (fun w' (h : SL w.heap.size t u W w') => deep_small u w' h.uin hzu)
  have XT := mkHid (fun w' (h : SL w.heap.size t u W w') => anyE hvt h.win h.tin h.s)
  have YU := mkHid (fun w' (h : SL w.heap.size t u W w') => EUc w' h)
  rw [h1] at ST
  rw [h2, ← h3] at SU
  clear h1 h2 h3
  generalize srtR t = r1 at *
  have hne : ((r1 : Int) != (r1 : Int)) = false := by simp
  rw [h4] at RT
  clear h4
  have d5 : decide ((200 : Int) < ((min 2001 t.size : Nat) : Int)) = false := by simp; omega
  have d6 : decide ((200 : Int) < ((min 2001 u.size : Nat) : Int)) = false := by simp; omega
  have d7 : decide ((80 : Int) < ((min 101 t.deep : Nat) : Int)) = false := by simp; omega
  have d8 : decide ((80 : Int) < ((min 101 u.deep : Nat) : Int)) = false := by simp; omega
  clear h5 h6 h7 h8
  generalize min 2001 t.size = z5 at *
  generalize min 2001 u.size = z6 at *
  generalize min 101 t.deep = z7 at *
  generalize min 101 u.deep = z8 at *
  have hk1 : (k != 0) = true := by rw [bne_iff_ne]; exact hk
  clear hk hvt EUc
  have hW0 : ((w.alloc (.cells #[.int .i64 t.op, .string t.nm, .int .i64 t.n, .slice t.a t.ks.length t.c] 24)).alloc (.cells #[.int .i64 u.op, .string u.nm, .int .i64 u.n, .slice u.a u.ks.length u.c] 24)).alloc (.cells #[.int .i64 W.nodes, .slice W.a W.l.length W.c] 38) = slW t u W w := rfl
  generalize slW t u W w = W0 at *
  unfold Tm.val at ST SU ZT ZU DT DU XT YU ⊢
  unfold Wd.val at RT XT YU ⊢
  clear ht hu hW hS hzt hzu
  go_enter Tryd.func6, Tryd.ntmps6
  go_wp2_with fail
  ((with_reducible refine SC.out.mono ?_)); rintro e w1 ⟨rfl, hb1⟩
  have S1 := S0.later hb1
  have B1 := bon B0 hb1
  clear SC hW0 S0
  obtain ⟨u0, u1, u2, u3⟩ := S1.bt
  simp only [Nat.zero_add] at u1 u2 u3
  go_wp2_with fail
  ((with_reducible refine (ST.out _ S1).mono ?_)); rintro e w2 ⟨rfl, hb2⟩
  have S2 := S1.later hb2
  have B2 := bon B1 hb2
  clear u0 u1 u2 u3 ST S1 B1 hb2
  obtain ⟨u0, u1, u2, u3⟩ := S2.bu
  simp only [Nat.zero_add] at u1 u2 u3
  go_wp2_with fail
  ((with_reducible refine (SU.out _ S2).mono ?_)); rintro e w3 ⟨rfl, hb3⟩
  have S3 := S2.later hb3
  have B3 := bon B2 hb3
  clear u0 u1 u2 u3 SU S2 B2 hb3
  obtain ⟨p0, p1⟩ := S3.bw
  go_wp2_with fail
  ((with_reducible refine (RT.out _ S3).mono ?_)); rintro e w4 ⟨rfl, hb4⟩
  have S4 := S3.later hb4
  have B4 := bon B3 hb4
  clear p0 p1 RT S3 B3 hb4
  obtain ⟨u0, u1, u2, u3⟩ := S4.bt
  simp only [Nat.zero_add] at u1 u2 u3
  go_wp2_with fail
  ((with_reducible refine (ZT.out _ S4).mono ?_)); rintro e w5 ⟨rfl, hb5⟩
  have S5 := S4.later hb5
  have B5 := bon B4 hb5
  clear u0 u1 u2 u3 ZT S4 B4 hb5
  obtain ⟨u0, u1, u2, u3⟩ := S5.bu
  simp only [Nat.zero_add] at u1 u2 u3
  go_wp2_with fail
  ((with_reducible refine (ZU.out _ S5).mono ?_)); rintro e w6 ⟨rfl, hb6⟩
  have S6 := S5.later hb6
  have B6 := bon B5 hb6
  clear u0 u1 u2 u3 ZU S5 B5 hb6
  obtain ⟨u0, u1, u2, u3⟩ := S6.bt
  simp only [Nat.zero_add] at u1 u2 u3
  go_wp2_with fail
  ((with_reducible refine (DT.out _ S6).mono ?_)); rintro e w7 ⟨rfl, hb7⟩
  have S7 := S6.later hb7
  have B7 := bon B6 hb7
  clear u0 u1 u2 u3 DT S6 B6 hb7
  obtain ⟨u0, u1, u2, u3⟩ := S7.bu
  simp only [Nat.zero_add] at u1 u2 u3
  go_wp2_with fail
  ((with_reducible refine (DU.out _ S7).mono ?_)); rintro e w8 ⟨rfl, hb8⟩
  have S8 := S7.later hb8
  have B8 := bon B7 hb8
  clear u0 u1 u2 u3 DU S7 B7 hb8
  obtain ⟨u0, u1, u2, u3⟩ := S8.bt
  simp only [Nat.zero_add] at u1 u2 u3
  obtain ⟨p0, p1⟩ := S8.bw
  go_wp2_with fail
  ((with_reducible refine (XT.out _ S8).mono ?_)); rintro e w9 ⟨rfl, hb9⟩
  unfold zeroV
  have B9 := bon B8 hb9
  clear u0 u1 u2 u3 p0 p1 XT
  have hc9 := bon hb9 (bel_alloc w9 (.cells #[.int .i64 0, .int .i64 0, .bool false, .slice none 0 0] 41))
  have S9 := S8.later hc9
  have C9 := bon B8 hc9
  obtain ⟨u0, u1, u2, u3⟩ := S9.bu
  obtain ⟨p0, p1⟩ := S9.bw
  simp only [Nat.zero_add] at u1 u2 u3
  have l1 := World.block_lt_of_cell? _ _ (S8.later hb9).bu.1
  have l2 := World.block_lt_of_cell? _ _ (S8.later hb9).bw.1
  simp only at l1 l2
  go_wp2_with fail
  ((with_reducible refine (YU.out _ S9).mono ?_)); rintro e w10 ⟨so, nn, bb, aa, ln, cc, k2, rfl, hb10⟩
  have B10 := bon C9 hb10
  clear u0 u1 u2 u3 p0 p1
  go_wp2
  go_ret
  exact ⟨rfl, bal B10 _⟩
set_option maxRecDepth 100000 in
set_option maxHeartbeats 4000000 in
theorem laws10 (t u : Tm) (W : Wd) (w : World) (ht : TIn w w.heap.size t) (hu : TIn w w.heap.size u) (hW : WIn w w.heap.size W) (hS : Shps w) (h1 : errR t = 0) (h2 : errR u = 0) (h3 : srtR t = srtR u) (h4 : rightB W = true) (h5 : t.size ≤ 200) (h6 : u.size ≤ 200) (h7 : t.deep ≤ 80) (h8 : u.deep ≤ 80) (v : Vv) (hvt : evalR W t = .ok v) (k : Int) (hk : k ≠ 0) (hvu : evalR W u = .error k) :
    Calls Tryd.prog 6 #[t.val, u.val, W.val] w (RetB true w) := by
  have S0 := SL.start ht hu hW hS
  have B0 := slW_below t u W w
  have SC := mkHid (shownE _ S0.s)
  have hzt : t.size ≤ 2000 := by omega
  have hzu : u.size ≤ 2000 := by omega
  have ST := mkHid (fun w' (h : SL w.heap.size t u W w') => sort_any t w' h.tin h.s)
  have SU := mkHid (fun w' (h : SL w.heap.size t u W w') => sort_any u w' h.uin h.s)
  have RT := mkHid (fun w' (h : SL w.heap.size t u W w') => right_any W w' h.win)
  have ZT := mkHid (fun w' (h : SL w.heap.size t u W w') => size_any t w' h.tin)
  have ZU := mkHid (fun w' (h : SL w.heap.size t u W w') => size_any u w' h.uin)
  have DT := mkHid (fun w' (h : SL w.heap.size t u W w') => deep_small t w' h.tin hzt)
  have DU := mkHid (fun w' (h : SL w.heap.size t u W w') => deep_small u w' h.uin hzu)
  have ET := mkHid (fun w' (h : SL w.heap.size t u W w') => anyV hvt h.win h.tin h.s)
  have XU := mkHid (fun w' (h : SL w.heap.size t u W w') => anyE hvu h.win h.uin h.s)
  rw [h1] at ST
  rw [h2, ← h3] at SU
  clear h1 h2 h3
  generalize srtR t = r1 at *
  have hne : ((r1 : Int) != (r1 : Int)) = false := by simp
  rw [h4] at RT
  clear h4
  have d5 : decide ((200 : Int) < ((min 2001 t.size : Nat) : Int)) = false := by simp; omega
  have d6 : decide ((200 : Int) < ((min 2001 u.size : Nat) : Int)) = false := by simp; omega
  have d7 : decide ((80 : Int) < ((min 101 t.deep : Nat) : Int)) = false := by simp; omega
  have d8 : decide ((80 : Int) < ((min 101 u.deep : Nat) : Int)) = false := by simp; omega
  clear h5 h6 h7 h8
  generalize min 2001 t.size = z5 at *
  generalize min 2001 u.size = z6 at *
  generalize min 101 t.deep = z7 at *
  generalize min 101 u.deep = z8 at *
  have hk1 : (k != 0) = true := by rw [bne_iff_ne]; exact hk
  clear hk hvt hvu
  have hW0 : ((w.alloc (.cells #[.int .i64 t.op, .string t.nm, .int .i64 t.n, .slice t.a t.ks.length t.c] 24)).alloc (.cells #[.int .i64 u.op, .string u.nm, .int .i64 u.n, .slice u.a u.ks.length u.c] 24)).alloc (.cells #[.int .i64 W.nodes, .slice W.a W.l.length W.c] 38) = slW t u W w := rfl
  generalize slW t u W w = W0 at *
  unfold Tm.val at ST SU ZT ZU DT DU ET XU ⊢
  unfold Wd.val at RT ET XU ⊢
  clear ht hu hW hS hzt hzu
  go_enter Tryd.func6, Tryd.ntmps6
  go_wp2_with fail
  ((with_reducible refine SC.out.mono ?_)); rintro e w1 ⟨rfl, hb1⟩
  have S1 := S0.later hb1
  have B1 := bon B0 hb1
  clear SC hW0 S0
  obtain ⟨u0, u1, u2, u3⟩ := S1.bt
  simp only [Nat.zero_add] at u1 u2 u3
  go_wp2_with fail
  ((with_reducible refine (ST.out _ S1).mono ?_)); rintro e w2 ⟨rfl, hb2⟩
  have S2 := S1.later hb2
  have B2 := bon B1 hb2
  clear u0 u1 u2 u3 ST S1 B1 hb2
  obtain ⟨u0, u1, u2, u3⟩ := S2.bu
  simp only [Nat.zero_add] at u1 u2 u3
  go_wp2_with fail
  ((with_reducible refine (SU.out _ S2).mono ?_)); rintro e w3 ⟨rfl, hb3⟩
  have S3 := S2.later hb3
  have B3 := bon B2 hb3
  clear u0 u1 u2 u3 SU S2 B2 hb3
  obtain ⟨p0, p1⟩ := S3.bw
  go_wp2_with fail
  ((with_reducible refine (RT.out _ S3).mono ?_)); rintro e w4 ⟨rfl, hb4⟩
  have S4 := S3.later hb4
  have B4 := bon B3 hb4
  clear p0 p1 RT S3 B3 hb4
  obtain ⟨u0, u1, u2, u3⟩ := S4.bt
  simp only [Nat.zero_add] at u1 u2 u3
  go_wp2_with fail
  ((with_reducible refine (ZT.out _ S4).mono ?_)); rintro e w5 ⟨rfl, hb5⟩
  have S5 := S4.later hb5
  have B5 := bon B4 hb5
  clear u0 u1 u2 u3 ZT S4 B4 hb5
  obtain ⟨u0, u1, u2, u3⟩ := S5.bu
  simp only [Nat.zero_add] at u1 u2 u3
  go_wp2_with fail
  ((with_reducible refine (ZU.out _ S5).mono ?_)); rintro e w6 ⟨rfl, hb6⟩
  have S6 := S5.later hb6
  have B6 := bon B5 hb6
  clear u0 u1 u2 u3 ZU S5 B5 hb6
  obtain ⟨u0, u1, u2, u3⟩ := S6.bt
  simp only [Nat.zero_add] at u1 u2 u3
  go_wp2_with fail
  ((with_reducible refine (DT.out _ S6).mono ?_)); rintro e w7 ⟨rfl, hb7⟩
  have S7 := S6.later hb7
  have B7 := bon B6 hb7
  clear u0 u1 u2 u3 DT S6 B6 hb7
  obtain ⟨u0, u1, u2, u3⟩ := S7.bu
  simp only [Nat.zero_add] at u1 u2 u3
  go_wp2_with fail
  ((with_reducible refine (DU.out _ S7).mono ?_)); rintro e w8 ⟨rfl, hb8⟩
  have S8 := S7.later hb8
  have B8 := bon B7 hb8
  clear u0 u1 u2 u3 DU S7 B7 hb8
  obtain ⟨u0, u1, u2, u3⟩ := S8.bt
  simp only [Nat.zero_add] at u1 u2 u3
  obtain ⟨p0, p1⟩ := S8.bw
  go_wp2_with fail
  ((with_reducible refine (ET.out _ S8).mono ?_)); rintro e w9 ⟨so8, nn8, bb8, aa8, ln8, cc8, rfl, hb9⟩
  clear u0 u1 u2 u3 p0 p1 ET
  have hc9 := bon hb9 (bel_alloc w9 (.cells #[.int .i64 so8, .int .i64 nn8, .bool bb8, .slice aa8 ln8 cc8] 41))
  have S9 := S8.later hc9
  have B9 := bon B8 hc9
  clear S8 B8 hc9
  generalize hV8 : w9.alloc (.cells #[.int .i64 so8, .int .i64 nn8, .bool bb8, .slice aa8 ln8 cc8] 41) = V9 at *
  obtain ⟨u0, u1, u2, u3⟩ := S9.bu
  simp only [Nat.zero_add] at u1 u2 u3
  obtain ⟨p0, p1⟩ := S9.bw
  go_wp2_with fail
  ((with_reducible refine (XU.out _ S9).mono ?_)); rintro e w10 ⟨rfl, hb10⟩
  unfold zeroV
  have B10 := bon B9 hb10
  clear hV8 u0 u1 u2 u3 p0 p1 XU
  go_wp2
  go_ret
  exact ⟨rfl, bal B10 _⟩
end Go.Proofs.YtlbknhedpjaelaaDoor
