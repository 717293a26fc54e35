/-
  The contracts of norm's Is and Norm.
-/
import Derived.Test.YtlobffjgkhcjbaaDoorNmF
import Derived.Test.YtlobffjgkhcjbaaDoorTmL
namespace Go.Proofs.YtlobffjgkhcjbaaDoor
open Go.RowKit

/-- what Is answers -/
def isB (t : Tm) : Bool := decide (errR t = 0) && decide (t.srt = 4) && plB t
theorem srtR_ok {t : Tm} (h : errR t = 0) : srtR t = t.srt := (errR_zero h).2.2.2
set_option maxRecDepth 100000 in
set_option maxHeartbeats 4000000 in
theorem is_any (t : Tm) (w : World) (ht : TIn w w.heap.size t) (hS : Shps w) : Calls Tryd.prog 38 #[t.val] w (RetBo (isB t) w) := by
  have B0 := bel_alloc w (boxT t)
  have F1 := box_four w t
  have CS := mkHid (sort_any t (w.alloc (boxT t)) (ht.later B0) (hS.later B0))
  have HT := mkHid ht
  have hW2 : w.alloc (.cells #[.int .i64 t.op, .string t.nm, .int .i64 t.n, .slice t.a t.ks.length t.c] 24) = w.alloc (boxT t) := rfl
  generalize w.alloc (boxT t) = W2 at *
  unfold Tm.val at CS
  clear hS ht
  unfold Tm.val
  obtain ⟨x0, x1, x2, x3⟩ := id F1
  simp only [Nat.zero_add] at x1 x2 x3
  have HF1 := mkHid F1
  clear F1
  by_cases he : errR t = 0
  · have hs := srtR_ok he
    rw [he, hs] at CS
    by_cases h4 : t.srt = 4
    · have CP := mkHid (fun w' (hb : Below W2.heap.size W2 w') => plain_any t h4 w' (HT.out.later (bon B0 hb)))
      have er : Hid (isB t = plB t) := by show isB t = plB t; unfold isB; rw [decide_eq_true he, decide_eq_true h4]; rfl
      rw [er.out]
      rw [h4] at CS
      clear he h4 hs
      unfold Tm.val at CP
      go_enter Tryd.func38, Tryd.ntmps38
      go_wp2_with fail
      ((with_reducible refine CS.out.mono ?_)); rintro e w3 ⟨rfl, hb3⟩
      obtain ⟨y0, y1, y2, y3⟩ := HF1.out.later hb3
      simp only [Nat.zero_add] at y1 y2 y3
      clear x0 x1 x2 x3 hW2
      generalize plB t = pb at *
      go_wp2_with fail
      ((with_reducible refine (CP.out w3 hb3).mono ?_)); rintro e w4 ⟨rfl, hb4⟩
      go_wp2
      go_ret
      exact ⟨rfl, bon (bon B0 hb3) hb4⟩
    · have er : Hid (isB t = false) := by show isB t = false; unfold isB; rw [decide_eq_false h4]; simp
      rw [er.out]
      have e4 : (((t.srt : Nat) : Int) == 4) = false := by rw [beq_eq_false_iff_ne]; omega
      clear he hs h4
      generalize ((t.srt : Nat) : Int) = sv at *
      go_enter Tryd.func38, Tryd.ntmps38
      go_wp2_with fail
      ((with_reducible refine CS.out.mono ?_)); rintro e w3 ⟨rfl, hb3⟩
      clear x0 x1 x2 x3 hW2
      go_wp2
      go_ret
      exact ⟨rfl, bon B0 hb3⟩
  · have er : Hid (isB t = false) := by show isB t = false; unfold isB; rw [decide_eq_false he]; simp
    rw [er.out]
    have e0 : (((errR t : Nat) : Int) == 0) = false := by rw [beq_eq_false_iff_ne]; omega
    clear he
    generalize ((errR t : Nat) : Int) = ev at *
    generalize ((srtR t : Nat) : Int) = sv at *
    go_enter Tryd.func38, Tryd.ntmps38
    go_wp2_with fail
    ((with_reducible refine CS.out.mono ?_)); rintro e w3 ⟨rfl, hb3⟩
    clear x0 x1 x2 x3 hW2
    go_wp2
    go_ret
    exact ⟨rfl, bon B0 hb3⟩
/-- the error of Norm -/
def normE (t : Tm) : Nat := if errR t ≠ 0 then errR t else if t.srt ≠ 4 then 3 else if errR (nn t false) ≠ 0 then 7 else 0
/-- what Norm answers: an error and nothing, or what the term becomes -/
def NormP (t : Tm) (w : World) (e : Ending) (w' : World) : Prop := (∃ x : Tm, e = .returned (.tuple #[x.val, .int .i64 (normE t)]) ∧ TIn w' w'.heap.size x ∧ (normE t = 0 → x.er = nn t false) ∧ (normE t ≠ 0 → x = q0 0)) ∧ Below w.heap.size w w'
theorem put4 {w wN : World} {x : Tm} (h : TIn wN wN.heap.size x) (ho : TAw (w.heap.size + 1) x) (BW : Below w.heap.size w wN) :
    TIn ((((wN.setCell ⟨w.heap.size + 1, 0, none⟩ (.int .i64 x.op)).setCell ⟨w.heap.size + 1, 1, none⟩ (.string x.nm)).setCell ⟨w.heap.size + 1, 2, none⟩ (.int .i64 x.n)).setCell ⟨w.heap.size + 1, 3, none⟩ (.slice x.a x.ks.length x.c)) ((((wN.setCell ⟨w.heap.size + 1, 0, none⟩ (.int .i64 x.op)).setCell ⟨w.heap.size + 1, 1, none⟩ (.string x.nm)).setCell ⟨w.heap.size + 1, 2, none⟩ (.int .i64 x.n)).setCell ⟨w.heap.size + 1, 3, none⟩ (.slice x.a x.ks.length x.c)).heap.size x ∧ Below w.heap.size w ((((wN.setCell ⟨w.heap.size + 1, 0, none⟩ (.int .i64 x.op)).setCell ⟨w.heap.size + 1, 1, none⟩ (.string x.nm)).setCell ⟨w.heap.size + 1, 2, none⟩ (.int .i64 x.n)).setCell ⟨w.heap.size + 1, 3, none⟩ (.slice x.a x.ks.length x.c)) := by
  have hsz : ((((wN.setCell ⟨w.heap.size + 1, 0, none⟩ (.int .i64 x.op)).setCell ⟨w.heap.size + 1, 1, none⟩ (.string x.nm)).setCell ⟨w.heap.size + 1, 2, none⟩ (.int .i64 x.n)).setCell ⟨w.heap.size + 1, 3, none⟩ (.slice x.a x.ks.length x.c)).heap.size = wN.heap.size := by simp
  refine ⟨?_, ?_⟩
  · rw [hsz]
    exact (((h.setAw (p := ⟨w.heap.size + 1, 0, none⟩) ho _).setAw (p := ⟨w.heap.size + 1, 1, none⟩) ho _).setAw (p := ⟨w.heap.size + 1, 2, none⟩) ho _).setAw (p := ⟨w.heap.size + 1, 3, none⟩) ho _
  · exact bset (bset (bset (bset BW (by show w.heap.size ≤ w.heap.size + 1; omega) _) (by show w.heap.size ≤ w.heap.size + 1; omega) _) (by show w.heap.size ≤ w.heap.size + 1; omega) _) (by show w.heap.size ≤ w.heap.size + 1; omega) _
theorem Mk.nil0 (w : World) : TIn w w.heap.size (q0 0) := (Mk.nil (w := w) (t := q0 0) (by decide)).tin
theorem tup2 {v : Value} {a b : Nat} (h : a = b) : Ending.returned (.tuple #[v, .int .i64 (a : Int)]) = .returned (.tuple #[v, .int .i64 (b : Int)]) := by rw [h]
set_option maxRecDepth 100000 in
set_option maxHeartbeats 4000000 in
theorem norm_any (t : Tm) (w : World) (ht : TIn w w.heap.size t) (hS : Shps w) : Calls Tryd.prog 36 #[t.val] w (NormP t w) := by
  have B0 : Below w.heap.size w (cpW t w) := bal (bal (Below.refl _ _) _) _
  have F1 : Four (cpW t w) w.heap.size 0 t := (box_four w t).later (bel_alloc _ _)
  have FR : FourV' (cpW t w) (w.heap.size + 1) (.int .i64 0) (.string ⟨#[]⟩) (.int .i64 0) (.slice none 0 0) := by simp [FourV', cpW, boxT, go_sem]
  have hX : w.heap.size + 1 < (cpW t w).heap.size := by simp [cpW]
  have CS := mkHid (sort_any t (cpW t w) (ht.later B0) (hS.later B0))
  have HS := mkHid (hS.later B0)
  have HT := mkHid ht
  have HX := mkHid hX
  have hW2 : (w.alloc (.cells #[.int .i64 t.op, .string t.nm, .int .i64 t.n, .slice t.a t.ks.length t.c] 24)).alloc (.cells #[.int .i64 0, .string ⟨#[]⟩, .int .i64 0, .slice none 0 0] 24) = cpW t w := rfl
  generalize cpW t w = W2 at *
  unfold Tm.val at CS
  clear hS ht hX
  unfold Tm.val
  obtain ⟨x0, x1, x2, x3⟩ := id F1
  simp only [Nat.zero_add] at x1 x2 x3
  have HF1 := mkHid F1
  have HFR := mkHid FR
  clear F1 FR
  by_cases he : errR t = 0
  · have hs := srtR_ok he
    rw [he, hs] at CS
    by_cases h4 : t.srt = 4
    · rw [h4] at CS
      have hz : t.size ≤ 2000 := (errR_zero he).1
      have CA := mkHid (fun w' (hb : Below W2.heap.size W2 w') => (both_any t h4 hz).1 w' (HT.out.later (bon B0 hb)))
      unfold Tm.val at CA
      have HE : Hid (normE t = if errR (nn t false) ≠ 0 then 7 else 0) := by
        show normE t = _
        unfold normE
        rw [if_neg (by rw [he]; decide), if_neg (by rw [h4]; decide)]
      clear he h4 hs hz
      go_enter Tryd.func36, Tryd.ntmps36
      go_wp2_with fail
      ((with_reducible refine CS.out.mono ?_)); rintro e w3 ⟨rfl, hb3⟩
      obtain ⟨y0, y1, y2, y3⟩ := HF1.out.later hb3
      simp only [Nat.zero_add] at y1 y2 y3
      clear x0 x1 x2 x3 hW2 CS
      go_wp2_with fail
      ((with_reducible refine (CA.out w3 hb3).mono ?_)); rintro e w4 ⟨z, rfl, ze, zt, zw, hb4⟩
      clear y0 y1 y2 y3
      have HZE := mkHid ze
      have own1 : TAw (w.heap.size + 1) z := zw _ (Nat.lt_of_lt_of_le HX.out hb3.size) (HT.out.aw (by omega))
      have HOWN := mkHid own1
      clear ze zw own1 CA
      have bN := bel_alloc w4 (boxT z)
      have F4 := box_four w4 z
      have hW5 : w4.alloc (.cells #[.int .i64 z.op, .string z.nm, .int .i64 z.n, .slice z.a z.ks.length z.c] 24) = w4.alloc (boxT z) := rfl
      have B5 := bon (bon hb3 hb4) bN
      have zt5 := zt.later bN
      have CS2 := mkHid (sort_any z (w4.alloc (boxT z)) zt5 (HS.out.later B5))
      generalize w4.alloc (boxT z) = W5 at *
      unfold Tm.val at CS2
      unfold Tm.val
      obtain ⟨x0, x1, x2, x3⟩ := id F4
      simp only [Nat.zero_add] at x1 x2 x3
      have ee : errR z = errR (nn t false) := by rw [← er_errR z, HZE.out]
      have HZT := mkHid zt5
      clear zt zt5
      by_cases he2 : errR z = 0
      · have hsz := (errR_zero he2).1
        have HE0 : Hid (normE t = 0) := by
          show normE t = 0
          rw [HE.out, if_neg (by rw [← ee, he2]; decide)]
        have CC := mkHid (fun w' (hb : Below W5.heap.size W5 w') => ncopied_any z w' (HZT.out.later hb) hsz)
        unfold Tm.val at CC
        rw [he2] at CS2
        clear he2 hsz ee HE
        generalize ((srtR z : Nat) : Int) = sv at *
        go_wp2_with fail
        ((with_reducible refine CS2.out.mono ?_)); rintro e w6 ⟨rfl, hb6⟩
        obtain ⟨y0, y1, y2, y3⟩ := F4.later hb6
        simp only [Nat.zero_add] at y1 y2 y3
        clear x0 x1 x2 x3 hW5 CS2
        go_wp2_with fail
        ((with_reducible refine (CC.out w6 hb6).mono ?_)); rintro e w7 ⟨y, rfl, ye, yt, yw, hb7⟩
        clear y0 y1 y2 y3
        obtain ⟨m0, m1, m2, m3, f0, f1, f2, f3⟩ := HFR.out.later (bon (bon B5 hb6) hb7)
        have HYE := mkHid ye
        have own2 : TAw (w.heap.size + 1) y := yw _ (Nat.lt_of_lt_of_le HX.out (Nat.le_trans B5.size hb6.size)) HOWN.out
        have HO2 := mkHid own2
        have HYT := mkHid yt
        clear ye yw own2 yt CC F4
        unfold Tm.val
        go_wp2
        obtain ⟨hy3, hy5⟩ := put4 HYT.out HO2.out (bon B0 (bon (bon B5 hb6) hb7))
        refine bodyPost_ret (v := .tuple #[.agg #[.int .i64 y.op, .string y.nm, .int .i64 y.n, .slice y.a y.ks.length y.c], .int .i64 0]) (by simp [results, Tryd.results36, go_sem, m0, m1, m2, m3]) rfl ⟨⟨y, ?_, ?_, fun _ => ?_, fun h => absurd HE0.out h⟩, hy5⟩
        · rw [HE0.out]; rfl
        · exact hy3
        · rw [HYE.out]; exact HZE.out
      · have HE0 : Hid (normE t = 7) := by
          show normE t = 7
          rw [HE.out, if_pos (by rw [← ee]; exact he2)]
        have e0 : (((errR z : Nat) : Int) == 0) = false := by rw [beq_eq_false_iff_ne]; omega
        clear he2 ee HE
        generalize ((srtR z : Nat) : Int) = sv at *
        generalize ((errR z : Nat) : Int) = ev at *
        go_wp2_with fail
        ((with_reducible refine CS2.out.mono ?_)); rintro e w6 ⟨rfl, hb6⟩
        clear x0 x1 x2 x3 hW5 CS2 F4
        obtain ⟨m0, m1, m2, m3, f0, f1, f2, f3⟩ := HFR.out.later (bon B5 hb6)
        go_wp2
        refine bodyPost_ret (v := .tuple #[(.agg #[.int .i64 0, .string ⟨#[]⟩, .int .i64 0, .slice none 0 0]), .int .i64 7]) (by simp [results, Tryd.results36, go_sem, m0, m1, m2, m3]) rfl ⟨⟨q0 0, ?_, Mk.nil0 _, fun h => absurd h ?_, fun _ => rfl⟩, ?_⟩
        · rw [HE0.out]; rfl
        · rw [HE0.out]; decide
        · exact bset (bset (bset (bset (bon B0 (bon B5 hb6)) (by show w.heap.size ≤ w.heap.size + 1; omega) _) (by show w.heap.size ≤ w.heap.size + 1; omega) _) (by show w.heap.size ≤ w.heap.size + 1; omega) _) (by show w.heap.size ≤ w.heap.size + 1; omega) _
    · have HE0 : Hid (normE t = 3) := by
        show normE t = 3
        unfold normE
        rw [if_neg (by rw [he]; decide), if_pos h4]
      have e4 : (((t.srt : Nat) : Int) == 4) = false := by rw [beq_eq_false_iff_ne]; omega
      clear he hs h4
      generalize ((t.srt : Nat) : Int) = sv at *
      go_enter Tryd.func36, Tryd.ntmps36
      go_wp2_with fail
      ((with_reducible refine CS.out.mono ?_)); rintro e w3 ⟨rfl, hb3⟩
      clear x0 x1 x2 x3 hW2
      obtain ⟨m0, m1, m2, m3, f0, f1, f2, f3⟩ := HFR.out.later hb3
      go_wp2
      refine bodyPost_ret (v := .tuple #[(.agg #[.int .i64 0, .string ⟨#[]⟩, .int .i64 0, .slice none 0 0]), .int .i64 3]) (by simp [results, Tryd.results36, go_sem, m0, m1, m2, m3]) rfl ⟨⟨q0 0, ?_, Mk.nil0 _, fun h => absurd h ?_, fun _ => rfl⟩, ?_⟩
      · rw [HE0.out]; rfl
      · rw [HE0.out]; decide
      · exact bset (bset (bset (bset (bon B0 hb3) (by show w.heap.size ≤ w.heap.size + 1; omega) _) (by show w.heap.size ≤ w.heap.size + 1; omega) _) (by show w.heap.size ≤ w.heap.size + 1; omega) _) (by show w.heap.size ≤ w.heap.size + 1; omega) _
  · have HE0 : Hid (normE t = errR t) := by
      show normE t = errR t
      unfold normE
      rw [if_pos he]
    have e0 : (((errR t : Nat) : Int) == 0) = false := by rw [beq_eq_false_iff_ne]; omega
    have HNE := mkHid he
    clear he
    generalize hsv : ((srtR t : Nat) : Int) = sv at *
    generalize hev : ((errR t : Nat) : Int) = ev at *
    have HEV := mkHid hev
    clear hsv hev
    go_enter Tryd.func36, Tryd.ntmps36
    go_wp2_with fail
    ((with_reducible refine CS.out.mono ?_)); rintro e w3 ⟨rfl, hb3⟩
    clear x0 x1 x2 x3 hW2
    obtain ⟨m0, m1, m2, m3, f0, f1, f2, f3⟩ := HFR.out.later hb3
    go_wp2
    refine bodyPost_ret (v := .tuple #[(.agg #[.int .i64 0, .string ⟨#[]⟩, .int .i64 0, .slice none 0 0]), .int .i64 ev]) (by simp [results, Tryd.results36, go_sem, m0, m1, m2, m3]) rfl ⟨⟨q0 0, ?_, Mk.nil0 _, fun h => absurd h ?_, fun _ => rfl⟩, ?_⟩
    · rw [HE0.out, HEV.out]; rfl
    · rw [HE0.out]; exact HNE.out
    · exact bset (bset (bset (bset (bon B0 hb3) (by show w.heap.size ≤ w.heap.size + 1; omega) _) (by show w.heap.size ≤ w.heap.size + 1; omega) _) (by show w.heap.size ≤ w.heap.size + 1; omega) _) (by show w.heap.size ≤ w.heap.size + 1; omega) _
end Go.Proofs.YtlobffjgkhcjbaaDoor
