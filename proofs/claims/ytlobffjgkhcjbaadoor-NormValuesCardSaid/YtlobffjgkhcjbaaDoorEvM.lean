/-
  What 'Eval' of package eval answers of any term in any world.
-/
import Derived.Test.YtlobffjgkhcjbaaDoorEvL
import Derived.Test.YtlobffjgkhcjbaaDoorTmL
namespace Go.Proofs.YtlobffjgkhcjbaaDoor
open Go.RowKit Go.Shelf

set_option maxRecDepth 100000 in
set_option maxHeartbeats 2000000 in
theorem eval_bad (W : Wd) (t : Tm) (w : World) (hW : WIn w w.heap.size W) (ht : TIn w w.heap.size t) (hS : Shps w) (h : errR t ≠ 0) :
    Calls Tryd.prog 41 #[t.val, W.val] w (RetE (errR t) w) := by
  have hb3 : Below w.heap.size w (((w.alloc (boxT t)).alloc (boxW W)).alloc (.cells #[.int .i64 0, .int .i64 0, .bool false, .slice none 0 0] 54)) := bal (bal (bal (Below.refl _ _) _) _) _
  have TT : Four (((w.alloc (boxT t)).alloc (boxW W)).alloc (.cells #[.int .i64 0, .int .i64 0, .bool false, .slice none 0 0] 54)) w.heap.size 0 t := ((box_four w t).later (bel_alloc _ _)).later (bel_alloc _ _)
  have TP : TwoW (((w.alloc (boxT t)).alloc (boxW W)).alloc (.cells #[.int .i64 0, .int .i64 0, .bool false, .slice none 0 0] 54)) (w.heap.size + 1) W := by
    have := (boxW_two (w.alloc (boxT t)) W).later (bel_alloc _ (.cells #[.int .i64 0, .int .i64 0, .bool false, .slice none 0 0] 54)); simpa using this
  have F1 : FourV (((w.alloc (boxT t)).alloc (boxW W)).alloc (.cells #[.int .i64 0, .int .i64 0, .bool false, .slice none 0 0] 54)) (w.heap.size + 1 + 1) (.int .i64 0) (.int .i64 0) (.bool false) (.slice none 0 0) := by simp [FourV, go_sem]
  have hX : (((w.alloc (boxT t)).alloc (boxW W)).alloc (.cells #[.int .i64 0, .int .i64 0, .bool false, .slice none 0 0] 54)).heap.size = w.heap.size + 1 + 1 + 1 := by simp
  have HX := mkHid hX
  clear hX
  have SC := mkHid (sort_any t _ (ht.later hb3) (hS.later hb3))
  have hne : ((errR t : Int) != 0) = true := by rw [bne_iff_ne]; omega
  generalize errR t = er at *
  generalize srtR t = sr at *
  clear h
  generalize hW3 : ((w.alloc (boxT t)).alloc (boxW W)).alloc (.cells #[.int .i64 0, .int .i64 0, .bool false, .slice none 0 0] 54) = W3 at *
  unfold boxT boxW at hW3
  have HIN := mkHid (hW.later hb3)
  have HTN := mkHid (ht.later hb3)
  clear hW ht hS
  unfold Tm.val at SC
  unfold Wd.val Tm.val
  obtain ⟨u0, u1, u2, u3⟩ := id TT
  obtain ⟨t0, t1⟩ := id TP
  simp only [Nat.zero_add] at u1 u2 u3
  go_enter Tryd.func41, Tryd.ntmps41
  go_wp2_with fail
  ((with_reducible refine SC.out.mono ?_)); rintro e w4 ⟨rfl, hb4⟩
  clear u0 u1 u2 u3 t0 t1 hW3 SC
  have hz4 := hb4.size
  have hz3 : w.heap.size + 1 + 1 < w4.heap.size := by rw [HX.out] at hz4; omega
  have BW := bon hb3 hb4
  have FF := F1.later hb4
  obtain ⟨x0, x1, x2, x3, x4, x5, x6, x7⟩ := FF
  go_wp2
  refine bodyPost_ret (v := .tuple #[zeroV, .int .i64 er]) (by simp [results, Tryd.results41, go_sem, x0, x1, x2, x3, zeroV, hz3]) rfl ⟨rfl, ?_⟩
  (repeat (first | exact BW | (refine bset ?_ (by simp <;> omega) _) | refine bal ?_ _))
set_option maxRecDepth 100000 in
set_option maxHeartbeats 2000000 in
theorem eval_wrong (W : Wd) (t : Tm) (w : World) (hW : WIn w w.heap.size W) (ht : TIn w w.heap.size t) (hS : Shps w) (h : errR t = 0) (hr : rightB W = false) :
    Calls Tryd.prog 41 #[t.val, W.val] w (RetE 1 w) := by
  have hb3 : Below w.heap.size w (((w.alloc (boxT t)).alloc (boxW W)).alloc (.cells #[.int .i64 0, .int .i64 0, .bool false, .slice none 0 0] 54)) := bal (bal (bal (Below.refl _ _) _) _) _
  have TT : Four (((w.alloc (boxT t)).alloc (boxW W)).alloc (.cells #[.int .i64 0, .int .i64 0, .bool false, .slice none 0 0] 54)) w.heap.size 0 t := ((box_four w t).later (bel_alloc _ _)).later (bel_alloc _ _)
  have TP : TwoW (((w.alloc (boxT t)).alloc (boxW W)).alloc (.cells #[.int .i64 0, .int .i64 0, .bool false, .slice none 0 0] 54)) (w.heap.size + 1) W := by
    have := (boxW_two (w.alloc (boxT t)) W).later (bel_alloc _ (.cells #[.int .i64 0, .int .i64 0, .bool false, .slice none 0 0] 54)); simpa using this
  have F1 : FourV (((w.alloc (boxT t)).alloc (boxW W)).alloc (.cells #[.int .i64 0, .int .i64 0, .bool false, .slice none 0 0] 54)) (w.heap.size + 1 + 1) (.int .i64 0) (.int .i64 0) (.bool false) (.slice none 0 0) := by simp [FourV, go_sem]
  have hX : (((w.alloc (boxT t)).alloc (boxW W)).alloc (.cells #[.int .i64 0, .int .i64 0, .bool false, .slice none 0 0] 54)).heap.size = w.heap.size + 1 + 1 + 1 := by simp
  have HX := mkHid hX
  clear hX
  have SC := mkHid (sort_any t _ (ht.later hb3) (hS.later hb3))
  have he := h
  obtain ⟨-, -, -, hsr⟩ := errR_zero h
  rw [he, hsr] at SC
  generalize hsg : t.srt = sr at *
  clear hsr hsg h he
  generalize hW3 : ((w.alloc (boxT t)).alloc (boxW W)).alloc (.cells #[.int .i64 0, .int .i64 0, .bool false, .slice none 0 0] 54) = W3 at *
  unfold boxT boxW at hW3
  have HIN := mkHid (hW.later hb3)
  have HTN := mkHid (ht.later hb3)
  clear hW ht hS
  unfold Tm.val at SC
  unfold Wd.val Tm.val
  obtain ⟨u0, u1, u2, u3⟩ := id TT
  obtain ⟨t0, t1⟩ := id TP
  simp only [Nat.zero_add] at u1 u2 u3
  go_enter Tryd.func41, Tryd.ntmps41
  go_wp2_with fail
  ((with_reducible refine SC.out.mono ?_)); rintro e w4 ⟨rfl, hb4⟩
  clear u0 u1 u2 u3 t0 t1 hW3 SC
  have hz4 := hb4.size
  have hz3 : w.heap.size + 1 + 1 < w4.heap.size := by rw [HX.out] at hz4; omega
  have hb5 := bel_alloc w4 (.cells #[.int .i64 sr] 3)
  have B5 := bon hb4 hb5
  have RC := mkHid (right_any W _ (HIN.out.later B5))
  rw [hr] at RC
  unfold Wd.val at RC
  have hs5 : (w4.alloc (.cells #[.int .i64 sr] 3)).cell? ⟨w4.heap.size, 0, none⟩ = some (.int .i64 sr) := by simp [go_sem]
  have HS5 := mkHid (fun (w' : World) (hb : Below (w4.alloc (.cells #[.int .i64 sr] 3)).heap.size (w4.alloc (.cells #[.int .i64 sr] 3)) w') => cell_later hb hs5)
  have hz5 : (w4.alloc (.cells #[.int .i64 sr] 3)).heap.size = w4.heap.size + 1 := by simp
  have HZ5 := mkHid hz5
  clear hz5 hs5
  generalize hW5 : w4.alloc (.cells #[.int .i64 sr] 3) = W5 at *
  obtain ⟨t0, t1⟩ := TP.later B5
  go_wp2_with fail
  ((with_reducible refine RC.out.mono ?_)); rintro e w6 ⟨rfl, hb6⟩
  have B6 := bon B5 hb6
  clear t0 t1 hW5 RC hr
  have BW := bon hb3 B6
  have FF := F1.later B6
  have hz3 : w.heap.size + 1 + 1 < w6.heap.size := by have := hb6.size; rw [HZ5.out] at this; omega
  obtain ⟨x0, x1, x2, x3, x4, x5, x6, x7⟩ := FF
  go_wp2
  refine bodyPost_ret (v := .tuple #[zeroV, .int .i64 1]) (by simp [results, Tryd.results41, go_sem, x0, x1, x2, x3, zeroV]) rfl ⟨rfl, ?_⟩
  (repeat (first | exact BW | (refine bset ?_ (by simp <;> omega) _) | refine bal ?_ _))
set_option maxRecDepth 100000 in
set_option maxHeartbeats 2000000 in
theorem eval_err (W : Wd) (t : Tm) (w : World) (hW : WIn w w.heap.size W) (ht : TIn w w.heap.size t) (hS : Shps w) {k : Int} (h : errR t = 0) (hr : rightB W = true) (C : CallsV W t t.srt (PanK k)) :
    Calls Tryd.prog 41 #[t.val, W.val] w (RetE k w) := by
  have hb3 : Below w.heap.size w (((w.alloc (boxT t)).alloc (boxW W)).alloc (.cells #[.int .i64 0, .int .i64 0, .bool false, .slice none 0 0] 54)) := bal (bal (bal (Below.refl _ _) _) _) _
  have TT : Four (((w.alloc (boxT t)).alloc (boxW W)).alloc (.cells #[.int .i64 0, .int .i64 0, .bool false, .slice none 0 0] 54)) w.heap.size 0 t := ((box_four w t).later (bel_alloc _ _)).later (bel_alloc _ _)
  have TP : TwoW (((w.alloc (boxT t)).alloc (boxW W)).alloc (.cells #[.int .i64 0, .int .i64 0, .bool false, .slice none 0 0] 54)) (w.heap.size + 1) W := by
    have := (boxW_two (w.alloc (boxT t)) W).later (bel_alloc _ (.cells #[.int .i64 0, .int .i64 0, .bool false, .slice none 0 0] 54)); simpa using this
  have F1 : FourV (((w.alloc (boxT t)).alloc (boxW W)).alloc (.cells #[.int .i64 0, .int .i64 0, .bool false, .slice none 0 0] 54)) (w.heap.size + 1 + 1) (.int .i64 0) (.int .i64 0) (.bool false) (.slice none 0 0) := by simp [FourV, go_sem]
  have hX : (((w.alloc (boxT t)).alloc (boxW W)).alloc (.cells #[.int .i64 0, .int .i64 0, .bool false, .slice none 0 0] 54)).heap.size = w.heap.size + 1 + 1 + 1 := by simp
  have HX := mkHid hX
  clear hX
  have SC := mkHid (sort_any t _ (ht.later hb3) (hS.later hb3))
  have he := h
  obtain ⟨-, -, -, hsr⟩ := errR_zero h
  rw [he, hsr] at SC
  generalize hsg : t.srt = sr at *
  clear hsr hsg h he
  generalize hW3 : ((w.alloc (boxT t)).alloc (boxW W)).alloc (.cells #[.int .i64 0, .int .i64 0, .bool false, .slice none 0 0] 54) = W3 at *
  unfold boxT boxW at hW3
  have HIN := mkHid (hW.later hb3)
  have HTN := mkHid (ht.later hb3)
  clear hW ht hS
  unfold Tm.val at SC
  unfold Wd.val Tm.val
  obtain ⟨u0, u1, u2, u3⟩ := id TT
  obtain ⟨t0, t1⟩ := id TP
  simp only [Nat.zero_add] at u1 u2 u3
  go_enter Tryd.func41, Tryd.ntmps41
  go_wp2_with fail
  ((with_reducible refine SC.out.mono ?_)); rintro e w4 ⟨rfl, hb4⟩
  clear u0 u1 u2 u3 t0 t1 hW3 SC
  have hz4 := hb4.size
  have hz3 : w.heap.size + 1 + 1 < w4.heap.size := by rw [HX.out] at hz4; omega
  have hb5 := bel_alloc w4 (.cells #[.int .i64 sr] 3)
  have B5 := bon hb4 hb5
  have RC := mkHid (right_any W _ (HIN.out.later B5))
  rw [hr] at RC
  unfold Wd.val at RC
  have hs5 : (w4.alloc (.cells #[.int .i64 sr] 3)).cell? ⟨w4.heap.size, 0, none⟩ = some (.int .i64 sr) := by simp [go_sem]
  have HS5 := mkHid (fun (w' : World) (hb : Below (w4.alloc (.cells #[.int .i64 sr] 3)).heap.size (w4.alloc (.cells #[.int .i64 sr] 3)) w') => cell_later hb hs5)
  have hz5 : (w4.alloc (.cells #[.int .i64 sr] 3)).heap.size = w4.heap.size + 1 := by simp
  have HZ5 := mkHid hz5
  clear hz5 hs5
  generalize hW5 : w4.alloc (.cells #[.int .i64 sr] 3) = W5 at *
  obtain ⟨t0, t1⟩ := TP.later B5
  go_wp2_with fail
  ((with_reducible refine RC.out.mono ?_)); rintro e w6 ⟨rfl, hb6⟩
  have B6 := bon B5 hb6
  clear t0 t1 hW5 RC hr
  have hmf : ∀ (fn : Fn) (first cap : Array Value) (w : World), (Instr.makeFunc fn first cap).run Tryd.prog w = .ok (.func fn first cap) w := fun _ _ _ _ => rfl
  have AT := mkHid (attemptE_err 74 ⟨w.heap.size + 1, 0, none⟩ ⟨w.heap.size, 0, none⟩ ⟨w4.heap.size, 0, none⟩ k w6 (enters_of Tryd.func74 (by kernel_rfl) rfl) (fun w7 hb7 => evalC_err W t sr k (w.heap.size + 1) w.heap.size w4.heap.size w7 (HIN.out.later (bon B6 hb7)) (HTN.out.later (bon B6 hb7)) (TP.later (bon B6 hb7)) (TT.later (bon B6 hb7)) (HS5.out w7 (bon hb6 hb7)) C))
  clear C
  go_wp2_with fail
  ((with_reducible refine AT.out.mono ?_)); rintro e w8 ⟨rfl, hb8⟩
  have BW := bon (bon hb3 B6) hb8
  unfold zeroV
  have FF := F1.later (bon B6 hb8)
  have hz3 : w.heap.size + 1 + 1 < w8.heap.size := by have h1 := hb6.size; have h2 := hb8.size; rw [HZ5.out] at h1; omega
  obtain ⟨x0, x1, x2, x3, x4, x5, x6, x7⟩ := FF
  go_wp2
  refine bodyPost_ret (v := .tuple #[zeroV, .int .i64 k]) (by simp [results, Tryd.results41, go_sem, x0, x1, x2, x3, zeroV]) rfl ⟨rfl, ?_⟩
  (repeat (first | exact BW | (refine bset ?_ (by simp <;> omega) _) | refine bal ?_ _))
set_option maxRecDepth 100000 in
set_option maxHeartbeats 2000000 in
theorem eval_ok (W : Wd) (t : Tm) (w : World) (hW : WIn w w.heap.size W) (ht : TIn w w.heap.size t) (hS : Shps w) {v : Vv} (h : errR t = 0) (hr : rightB W = true) (C : CallsV W t t.srt (RetV v)) :
    Calls Tryd.prog 41 #[t.val, W.val] w (RetVE v w) := by
  have hb3 : Below w.heap.size w (((w.alloc (boxT t)).alloc (boxW W)).alloc (.cells #[.int .i64 0, .int .i64 0, .bool false, .slice none 0 0] 54)) := bal (bal (bal (Below.refl _ _) _) _) _
  have TT : Four (((w.alloc (boxT t)).alloc (boxW W)).alloc (.cells #[.int .i64 0, .int .i64 0, .bool false, .slice none 0 0] 54)) w.heap.size 0 t := ((box_four w t).later (bel_alloc _ _)).later (bel_alloc _ _)
  have TP : TwoW (((w.alloc (boxT t)).alloc (boxW W)).alloc (.cells #[.int .i64 0, .int .i64 0, .bool false, .slice none 0 0] 54)) (w.heap.size + 1) W := by
    have := (boxW_two (w.alloc (boxT t)) W).later (bel_alloc _ (.cells #[.int .i64 0, .int .i64 0, .bool false, .slice none 0 0] 54)); simpa using this
  have F1 : FourV (((w.alloc (boxT t)).alloc (boxW W)).alloc (.cells #[.int .i64 0, .int .i64 0, .bool false, .slice none 0 0] 54)) (w.heap.size + 1 + 1) (.int .i64 0) (.int .i64 0) (.bool false) (.slice none 0 0) := by simp [FourV, go_sem]
  have hX : (((w.alloc (boxT t)).alloc (boxW W)).alloc (.cells #[.int .i64 0, .int .i64 0, .bool false, .slice none 0 0] 54)).heap.size = w.heap.size + 1 + 1 + 1 := by simp
  have HX := mkHid hX
  clear hX
  have SC := mkHid (sort_any t _ (ht.later hb3) (hS.later hb3))
  have he := h
  obtain ⟨-, -, -, hsr⟩ := errR_zero h
  rw [he, hsr] at SC
  generalize hsg : t.srt = sr at *
  clear hsr hsg h he
  generalize hW3 : ((w.alloc (boxT t)).alloc (boxW W)).alloc (.cells #[.int .i64 0, .int .i64 0, .bool false, .slice none 0 0] 54) = W3 at *
  unfold boxT boxW at hW3
  have HIN := mkHid (hW.later hb3)
  have HTN := mkHid (ht.later hb3)
  clear hW ht hS
  unfold Tm.val at SC
  unfold Wd.val Tm.val
  obtain ⟨u0, u1, u2, u3⟩ := id TT
  obtain ⟨t0, t1⟩ := id TP
  simp only [Nat.zero_add] at u1 u2 u3
  go_enter Tryd.func41, Tryd.ntmps41
  go_wp2_with fail
  ((with_reducible refine SC.out.mono ?_)); rintro e w4 ⟨rfl, hb4⟩
  clear u0 u1 u2 u3 t0 t1 hW3 SC
  have hz4 := hb4.size
  have hz3 : w.heap.size + 1 + 1 < w4.heap.size := by rw [HX.out] at hz4; omega
  have hb5 := bel_alloc w4 (.cells #[.int .i64 sr] 3)
  have B5 := bon hb4 hb5
  have RC := mkHid (right_any W _ (HIN.out.later B5))
  rw [hr] at RC
  unfold Wd.val at RC
  have hs5 : (w4.alloc (.cells #[.int .i64 sr] 3)).cell? ⟨w4.heap.size, 0, none⟩ = some (.int .i64 sr) := by simp [go_sem]
  have HS5 := mkHid (fun (w' : World) (hb : Below (w4.alloc (.cells #[.int .i64 sr] 3)).heap.size (w4.alloc (.cells #[.int .i64 sr] 3)) w') => cell_later hb hs5)
  have hz5 : (w4.alloc (.cells #[.int .i64 sr] 3)).heap.size = w4.heap.size + 1 := by simp
  have HZ5 := mkHid hz5
  clear hz5 hs5
  generalize hW5 : w4.alloc (.cells #[.int .i64 sr] 3) = W5 at *
  obtain ⟨t0, t1⟩ := TP.later B5
  go_wp2_with fail
  ((with_reducible refine RC.out.mono ?_)); rintro e w6 ⟨rfl, hb6⟩
  have B6 := bon B5 hb6
  clear t0 t1 hW5 RC hr
  have hmf : ∀ (fn : Fn) (first cap : Array Value) (w : World), (Instr.makeFunc fn first cap).run Tryd.prog w = .ok (.func fn first cap) w := fun _ _ _ _ => rfl
  have AT := mkHid (attemptE_ok 74 ⟨w.heap.size + 1, 0, none⟩ ⟨w.heap.size, 0, none⟩ ⟨w4.heap.size, 0, none⟩ v w6 (enters_of Tryd.func74 (by kernel_rfl) rfl) (fun w7 hb7 => evalC_ok W t sr v (w.heap.size + 1) w.heap.size w4.heap.size w7 (HIN.out.later (bon B6 hb7)) (HTN.out.later (bon B6 hb7)) (TP.later (bon B6 hb7)) (TT.later (bon B6 hb7)) (HS5.out w7 (bon hb6 hb7)) C))
  clear C
  go_wp2_with fail
  ((with_reducible refine AT.out.mono ?_)); rintro e w8 ⟨a, c, rfl, ho, hb8⟩
  have BW := bon (bon hb3 B6) hb8
  have hz6 := hb6.size
  rw [HZ5.out] at hz6
  obtain ⟨x0, x1, x2, x3, x4, x5, x6, x7⟩ := F1.later (bon B6 hb8)
  go_wp2
  refine bodyPost_ret (v := .tuple #[.agg #[.int .i64 v.sort, .int .i64 v.n, .bool v.bb, .slice a v.l.length c], .int .i64 0]) (by simp [results, Tryd.results41, go_sem, x0, x1, x2, x3]) rfl ⟨a, c, rfl, ?_, ?_⟩
  · refine own_base (base := w6.heap.size) ?_ (by omega)
    refine own_put (own_put (own_put (own_put ho ?_ _) ?_ _) ?_ _) ?_ _ <;> (simp <;> omega)
  · (repeat (first | exact BW | (refine bset ?_ (by simp <;> omega) _)))
theorem eval_any (W : Wd) (t : Tm) (w : World) (hW : WIn w w.heap.size W) (ht : TIn w w.heap.size t) (hS : Shps w) :
    Calls Tryd.prog 41 #[t.val, W.val] w (EvalP (evalR W t) w) := by
  unfold evalR
  by_cases h : errR t = 0
  · rw [if_pos h]
    cases hr : rightB W
    · exact eval_wrong W t w hW ht hS h hr
    · obtain ⟨hz, -, hs, -⟩ := errR_zero h
      rcases valueR (ev_of (right_rt hr hW) t ht hs hz) (by omega) (srt_le t) with ⟨v, e, C⟩ | ⟨k, e, C⟩
      · simp only [if_true]; rw [e]; exact eval_ok W t w hW ht hS h hr C
      · simp only [if_true]; rw [e]; exact eval_err W t w hW ht hS h hr C
  · rw [if_neg h]
    exact eval_bad W t w hW ht hS h
end Go.Proofs.YtlobffjgkhcjbaaDoor
