/-
  The document's Norm and Is of norm.
-/
import Derived.Test.YtlobffjgkhcjbaaDoorNrB
import Derived.Test.YtlobffjgkhcjbaaDoorNrC
import Derived.Test.YtlobffjgkhcjbaaDoorNrE
import Derived.Test.YtlobffjgkhcjbaaDoorNrF
import Derived.Test.YtlobffjgkhcjbaaDoorTmX
namespace Go.Proofs.YtlobffjgkhcjbaaDoor
open Go.RowKit

def UpC (t : Tm) : Prop := ∀ w : World, TIn w w.heap.size t → Calls Tryd.prog 68 #[t.val] w (BecP (fun k => nn k false) t w)
def DownC (t : Tm) : Prop := ∀ w : World, TIn w w.heap.size t → Calls Tryd.prog 93 #[t.val] w (BecP (fun k => nn k true) t w)
theorem rboth_any : ∀ t : Tm, t.srt = 4 → t.size ≤ 2000 → UpC t ∧ DownC t := by
  refine bool_ind ?_ ?_ ?_ ?_ ?_ ?_ ?_ ?_ ?_ ?_ ?_ ?_ ?_ ?_
  · intro t _ ho _ _
    have A : UpC t := fun w h => up15 _ t ho (by show nn t false = _; rw [nn15 ho]; rfl) w h
    exact ⟨A, fun w h => down15 _ t ho A (by show nn t true = mkT 18 [nn t false]; rw [nn15 ho, nn15 ho]; rfl) w h⟩
  · intro t _ ho _ _ _
    exact ⟨fun w h => up16 _ t ho (by show nn t false = _; rw [nn16 ho]; rfl) w h, fun w h => down16 _ t ho (by show nn t true = _; rw [nn16 ho]; rfl) w h⟩
  · intro t _ ho _ _ _
    exact ⟨fun w h => up17 _ t ho (by show nn t false = _; rw [nn17 ho]; rfl) w h, fun w h => down17 _ t ho (by show nn t true = _; rw [nn17 ho]; rfl) w h⟩
  · intro t u _ ho hk _ _ ih hz
    have hu := ih (Nat.le_trans (size_kid (t := t) (by rw [hk]; exact List.mem_cons_self ..)) hz)
    exact ⟨fun w h => up18 _ t u ho hk hu.2 (by show nn t false = _; rw [nn18 ho hk]; rfl) w h, fun w h => down18 _ t u ho hk hu.1 (by show nn t true = _; rw [nn18 ho hk]; rfl) w h⟩
  · intro t _ ho _ _ ih hz
    have hk := fun k hk => ih k hk (Nat.le_trans (size_kid hk) hz)
    exact ⟨fun w h => up19 _ t ho (len_kids hz) (fun k h' => (hk k h').1) (by show nn t false = _; rw [nn19 ho]; rfl) w h, fun w h => down19 _ t ho (len_kids hz) (fun k h' => (hk k h').2) (by show nn t true = _; rw [nn19 ho]; rfl) w h⟩
  · intro t _ ho _ _ ih hz
    have hk := fun k hk => ih k hk (Nat.le_trans (size_kid hk) hz)
    exact ⟨fun w h => up20 _ t ho (len_kids hz) (fun k h' => (hk k h').1) (by show nn t false = _; rw [nn20 ho]; rfl) w h, fun w h => down20 _ t ho (len_kids hz) (fun k h' => (hk k h').2) (by show nn t true = _; rw [nn20 ho]; rfl) w h⟩
  · intro t u v _ ho hk _ _ _ ihu ihv hz
    have hu := ihu (Nat.le_trans (size_kid (t := t) (by rw [hk]; simp)) hz)
    have hv := ihv (Nat.le_trans (size_kid (t := t) (by rw [hk]; simp)) hz)
    exact ⟨fun w h => up21 _ t u v ho hk hu.2 hv.1 (by show nn t false = _; rw [nn21 ho hk]; rfl) w h, fun w h => down21 _ t u v ho hk hu.1 hv.2 (by show nn t true = _; rw [nn21 ho hk]; rfl) w h⟩
  · intro t u v _ ho _ _ _ _ _
    have A : UpC t := fun w h => up22 _ t ho (by show nn t false = _; rw [nn22 ho]; rfl) w h
    exact ⟨A, fun w h => down22 _ t ho A (by show nn t true = mkT 18 [nn t false]; rw [nn22 ho, nn22 ho]; rfl) w h⟩
  · intro t u v _ ho hk _ _ _
    exact ⟨fun w h => up23 _ t u v ho hk (by show nn t false = _; rw [nn23 ho hk]; rfl) w h, fun w h => down23 _ t u v ho hk (by show nn t true = _; rw [nn23 ho hk]; rfl) w h⟩
  · intro t u v _ ho hk _ _ _
    have A : UpC t := fun w h => up24 _ t u v ho hk (by show nn t false = _; rw [nn24 ho hk]; rfl) w h
    exact ⟨A, fun w h => down24 _ t u v ho hk (by show nn t true = _; rw [nn24 ho hk]; rfl) w h⟩
  · intro t u v _ ho hk _ _ _
    have A : UpC t := fun w h => up25 _ t u v ho hk (by show nn t false = _; rw [nn25 ho hk]; rfl) w h
    exact ⟨A, fun w h => down25 _ t ho A (by show nn t true = mkT 18 [nn t false]; rw [nn25 ho hk, nn25 ho hk]; rfl) w h⟩
  · intro t u v _ ho hk _ _ _
    have A : UpC t := fun w h => up26 _ t u v ho hk (by show nn t false = _; rw [nn26 ho hk]; rfl) w h
    exact ⟨A, fun w h => down26 _ t ho A (by show nn t true = mkT 18 [nn t false]; rw [nn26 ho hk, nn26 ho hk]; rfl) w h⟩
  · intro t u v _ ho hk _ _ _
    have A : UpC t := fun w h => up27 _ t u v ho hk (by show nn t false = _; rw [nn27 ho hk]; rfl) w h
    exact ⟨A, fun w h => down27 _ t u v ho hk (by show nn t true = _; rw [nn27 ho hk]; rfl) w h⟩
  · intro t u v _ ho hk _ _ _
    have A : UpC t := fun w h => up28 _ t u v ho hk (by show nn t false = _; rw [nn28 ho hk]; rfl) w h
    exact ⟨A, fun w h => down28 _ t ho A (by show nn t true = mkT 18 [nn t false]; rw [nn28 ho hk, nn28 ho hk]; rfl) w h⟩
set_option maxRecDepth 100000 in
set_option maxHeartbeats 4000000 in
theorem rIs_any (t : Tm) (w : World) (ht : TIn w w.heap.size t) : Calls Tryd.prog 39 #[t.val] w (RetBo (isB t) w) := by
  have B0 := bel_alloc w (boxT t)
  have F1 := box_four w t
  have CS := mkHid (rSort_any t (w.alloc (boxT t)) (ht.later B0))
  have HT := mkHid ht
  have hW2 : w.alloc (.cells #[.int .i64 t.op, .string t.nm, .int .i64 t.n, .slice t.a t.ks.length t.c] 24) = w.alloc (boxT t) := rfl
  generalize w.alloc (boxT t) = W2 at *
  unfold Tm.val at CS
  clear ht
  unfold Tm.val
  obtain ⟨x0, x1, x2, x3⟩ := id F1
  simp only [Nat.zero_add] at x1 x2 x3
  have HF1 := mkHid F1
  clear F1
  by_cases he : errR t = 0
  · have hs := srtR_ok he
    rw [he, hs] at CS
    by_cases h4 : t.srt = 4
    · have CP := mkHid (fun w' (hb : Below W2.heap.size W2 w') => ris_any t h4 w' (HT.out.later (bon B0 hb)))
      have er : Hid (isB t = plB t) := by show isB t = plB t; unfold isB; rw [decide_eq_true he, decide_eq_true h4]; rfl
      rw [er.out]
      rw [h4] at CS
      clear he h4 hs
      unfold Tm.val at CP
      go_enter Tryd.func39, Tryd.ntmps39
      go_wp2_with fail
      ((with_reducible refine CS.out.mono ?_)); rintro e w3 ⟨rfl, hb3⟩
      obtain ⟨y0, y1, y2, y3⟩ := HF1.out.later hb3
      simp only [Nat.zero_add] at y1 y2 y3
      clear x0 x1 x2 x3 hW2
      generalize plB t = pb at *
      go_wp2_with fail
      ((with_reducible refine (CP.out w3 hb3).mono ?_)); rintro e w4 ⟨rfl, hb4⟩
      go_wp2
      go_ret
      exact ⟨rfl, bon (bon B0 hb3) hb4⟩
    · have er : Hid (isB t = false) := by show isB t = false; unfold isB; rw [decide_eq_false h4]; simp
      rw [er.out]
      have e4 : (((t.srt : Nat) : Int) == 4) = false := by rw [beq_eq_false_iff_ne]; omega
      clear he hs h4
      generalize ((t.srt : Nat) : Int) = sv at *
      go_enter Tryd.func39, Tryd.ntmps39
      go_wp2_with fail
      ((with_reducible refine CS.out.mono ?_)); rintro e w3 ⟨rfl, hb3⟩
      clear x0 x1 x2 x3 hW2
      go_wp2
      go_ret
      exact ⟨rfl, bon B0 hb3⟩
  · have er : Hid (isB t = false) := by show isB t = false; unfold isB; rw [decide_eq_false he]; simp
    rw [er.out]
    have e0 : (((errR t : Nat) : Int) == 0) = false := by rw [beq_eq_false_iff_ne]; omega
    clear he
    generalize ((errR t : Nat) : Int) = ev at *
    generalize ((srtR t : Nat) : Int) = sv at *
    go_enter Tryd.func39, Tryd.ntmps39
    go_wp2_with fail
    ((with_reducible refine CS.out.mono ?_)); rintro e w3 ⟨rfl, hb3⟩
    clear x0 x1 x2 x3 hW2
    go_wp2
    go_ret
    exact ⟨rfl, bon B0 hb3⟩
set_option maxRecDepth 100000 in
set_option maxHeartbeats 4000000 in
theorem rNorm_any (t : Tm) (w : World) (ht : TIn w w.heap.size t) : Calls Tryd.prog 37 #[t.val] w (NormP t w) := by
  have B0 : Below w.heap.size w (cpW t w) := bal (bal (Below.refl _ _) _) _
  have F1 : Four (cpW t w) w.heap.size 0 t := (box_four w t).later (bel_alloc _ _)
  have FR : FourV' (cpW t w) (w.heap.size + 1) (.int .i64 0) (.string ⟨#[]⟩) (.int .i64 0) (.slice none 0 0) := by simp [FourV', cpW, boxT, go_sem]
  have hX : w.heap.size + 1 < (cpW t w).heap.size := by simp [cpW]
  have CS := mkHid (rSort_any t (cpW t w) (ht.later B0))
  have HT := mkHid ht
  have HX := mkHid hX
  have hW2 : (w.alloc (.cells #[.int .i64 t.op, .string t.nm, .int .i64 t.n, .slice t.a t.ks.length t.c] 24)).alloc (.cells #[.int .i64 0, .string ⟨#[]⟩, .int .i64 0, .slice none 0 0] 24) = cpW t w := rfl
  generalize cpW t w = W2 at *
  unfold Tm.val at CS
  clear ht hX
  unfold Tm.val
  obtain ⟨x0, x1, x2, x3⟩ := id F1
  simp only [Nat.zero_add] at x1 x2 x3
  have HF1 := mkHid F1
  have HFR := mkHid FR
  clear F1 FR
  by_cases he : errR t = 0
  · have hs := srtR_ok he
    rw [he, hs] at CS
    by_cases h4 : t.srt = 4
    · rw [h4] at CS
      have hz : t.size ≤ 2000 := (errR_zero he).1
      have CA := mkHid (fun w' (hb : Below W2.heap.size W2 w') => (rboth_any t h4 hz).1 w' (HT.out.later (bon B0 hb)))
      unfold Tm.val at CA
      have HE : Hid (normE t = if errR (nn t false) ≠ 0 then 7 else 0) := by
        show normE t = _
        unfold normE
        rw [if_neg (by rw [he]; decide), if_neg (by rw [h4]; decide)]
      clear he h4 hs hz
      go_enter Tryd.func37, Tryd.ntmps37
      go_wp2_with fail
      ((with_reducible refine CS.out.mono ?_)); rintro e w3 ⟨rfl, hb3⟩
      obtain ⟨y0, y1, y2, y3⟩ := HF1.out.later hb3
      simp only [Nat.zero_add] at y1 y2 y3
      clear x0 x1 x2 x3 hW2 CS
      go_wp2_with fail
      ((with_reducible refine (CA.out w3 hb3).mono ?_)); rintro e w4 ⟨z, rfl, ze, zt, zw, hb4⟩
      clear y0 y1 y2 y3
      have HZE := mkHid ze
      have own1 : TAw (w.heap.size + 1) z := zw _ (Nat.lt_of_lt_of_le HX.out hb3.size) (HT.out.aw (by omega))
      have HOWN := mkHid own1
      clear ze zw own1 CA
      have bN := bel_alloc w4 (boxT z)
      have F4 := box_four w4 z
      have hW5 : w4.alloc (.cells #[.int .i64 z.op, .string z.nm, .int .i64 z.n, .slice z.a z.ks.length z.c] 24) = w4.alloc (boxT z) := rfl
      have B5 := bon (bon hb3 hb4) bN
      have zt5 := zt.later bN
      have CS2 := mkHid (rSort_any z (w4.alloc (boxT z)) zt5)
      generalize w4.alloc (boxT z) = W5 at *
      unfold Tm.val at CS2
      unfold Tm.val
      obtain ⟨x0, x1, x2, x3⟩ := id F4
      simp only [Nat.zero_add] at x1 x2 x3
      have ee : errR z = errR (nn t false) := by rw [← er_errR z, HZE.out]
      have HZT := mkHid zt5
      clear zt zt5
      by_cases he2 : errR z = 0
      · have HE0 : Hid (normE t = 0) := by
          show normE t = 0
          rw [HE.out, if_neg (by rw [← ee, he2]; decide)]
        rw [he2] at CS2
        clear he2 ee HE
        generalize ((srtR z : Nat) : Int) = sv at *
        go_wp2_with fail
        ((with_reducible refine CS2.out.mono ?_)); rintro e w6 ⟨rfl, hb6⟩
        obtain ⟨y0, y1, y2, y3⟩ := F4.later hb6
        simp only [Nat.zero_add] at y1 y2 y3
        clear x0 x1 x2 x3 hW5 CS2
        obtain ⟨m0, m1, m2, m3, f0, f1, f2, f3⟩ := HFR.out.later (bon B5 hb6)
        clear F4
        go_wp2
        obtain ⟨hy3, hy5⟩ := put4 (HZT.out.later hb6) HOWN.out (bon B0 (bon B5 hb6))
        refine bodyPost_ret (v := .tuple #[.agg #[.int .i64 z.op, .string z.nm, .int .i64 z.n, .slice z.a z.ks.length z.c], .int .i64 0]) (by simp [results, Tryd.results37, go_sem, m0, m1, m2, m3]) rfl ⟨⟨z, ?_, ?_, fun _ => ?_, fun h => absurd HE0.out h⟩, hy5⟩
        · rw [HE0.out]; rfl
        · exact hy3
        · exact HZE.out
      · have HE0 : Hid (normE t = 7) := by
          show normE t = 7
          rw [HE.out, if_pos (by rw [← ee]; exact he2)]
        have e0 : (((errR z : Nat) : Int) == 0) = false := by rw [beq_eq_false_iff_ne]; omega
        clear he2 ee HE
        generalize ((srtR z : Nat) : Int) = sv at *
        generalize ((errR z : Nat) : Int) = ev at *
        go_wp2_with fail
        ((with_reducible refine CS2.out.mono ?_)); rintro e w6 ⟨rfl, hb6⟩
        clear x0 x1 x2 x3 hW5 CS2 F4
        obtain ⟨m0, m1, m2, m3, f0, f1, f2, f3⟩ := HFR.out.later (bon B5 hb6)
        go_wp2
        refine bodyPost_ret (v := .tuple #[(.agg #[.int .i64 0, .string ⟨#[]⟩, .int .i64 0, .slice none 0 0]), .int .i64 7]) (by simp [results, Tryd.results37, go_sem, m0, m1, m2, m3]) rfl ⟨⟨q0 0, ?_, Mk.nil0 _, fun h => absurd h ?_, fun _ => rfl⟩, ?_⟩
        · rw [HE0.out]; rfl
        · rw [HE0.out]; decide
        · exact bset (bset (bset (bset (bon B0 (bon B5 hb6)) (by show w.heap.size ≤ w.heap.size + 1; omega) _) (by show w.heap.size ≤ w.heap.size + 1; omega) _) (by show w.heap.size ≤ w.heap.size + 1; omega) _) (by show w.heap.size ≤ w.heap.size + 1; omega) _
    · have HE0 : Hid (normE t = 3) := by
        show normE t = 3
        unfold normE
        rw [if_neg (by rw [he]; decide), if_pos h4]
      have e4 : (((t.srt : Nat) : Int) == 4) = false := by rw [beq_eq_false_iff_ne]; omega
      clear he hs h4
      generalize ((t.srt : Nat) : Int) = sv at *
      go_enter Tryd.func37, Tryd.ntmps37
      go_wp2_with fail
      ((with_reducible refine CS.out.mono ?_)); rintro e w3 ⟨rfl, hb3⟩
      clear x0 x1 x2 x3 hW2
      obtain ⟨m0, m1, m2, m3, f0, f1, f2, f3⟩ := HFR.out.later hb3
      go_wp2
      refine bodyPost_ret (v := .tuple #[(.agg #[.int .i64 0, .string ⟨#[]⟩, .int .i64 0, .slice none 0 0]), .int .i64 3]) (by simp [results, Tryd.results37, go_sem, m0, m1, m2, m3]) rfl ⟨⟨q0 0, ?_, Mk.nil0 _, fun h => absurd h ?_, fun _ => rfl⟩, ?_⟩
      · rw [HE0.out]; rfl
      · rw [HE0.out]; decide
      · exact bset (bset (bset (bset (bon B0 hb3) (by show w.heap.size ≤ w.heap.size + 1; omega) _) (by show w.heap.size ≤ w.heap.size + 1; omega) _) (by show w.heap.size ≤ w.heap.size + 1; omega) _) (by show w.heap.size ≤ w.heap.size + 1; omega) _
  · have HE0 : Hid (normE t = errR t) := by
      show normE t = errR t
      unfold normE
      rw [if_pos he]
    have e0 : (((errR t : Nat) : Int) == 0) = false := by rw [beq_eq_false_iff_ne]; omega
    have HNE := mkHid he
    clear he
    generalize hsv : ((srtR t : Nat) : Int) = sv at *
    generalize hev : ((errR t : Nat) : Int) = ev at *
    have HEV := mkHid hev
    clear hsv hev
    go_enter Tryd.func37, Tryd.ntmps37
    go_wp2_with fail
    ((with_reducible refine CS.out.mono ?_)); rintro e w3 ⟨rfl, hb3⟩
    clear x0 x1 x2 x3 hW2
    obtain ⟨m0, m1, m2, m3, f0, f1, f2, f3⟩ := HFR.out.later hb3
    go_wp2
    refine bodyPost_ret (v := .tuple #[(.agg #[.int .i64 0, .string ⟨#[]⟩, .int .i64 0, .slice none 0 0]), .int .i64 ev]) (by simp [results, Tryd.results37, go_sem, m0, m1, m2, m3]) rfl ⟨⟨q0 0, ?_, Mk.nil0 _, fun h => absurd h ?_, fun _ => rfl⟩, ?_⟩
    · rw [HE0.out, HEV.out]; rfl
    · rw [HE0.out]; exact HNE.out
    · exact bset (bset (bset (bset (bon B0 hb3) (by show w.heap.size ≤ w.heap.size + 1; omega) _) (by show w.heap.size ≤ w.heap.size + 1; omega) _) (by show w.heap.size ≤ w.heap.size + 1; omega) _) (by show w.heap.size ≤ w.heap.size + 1; omega) _
end Go.Proofs.YtlobffjgkhcjbaaDoor
