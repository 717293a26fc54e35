/-
  What package subst's 'Put' answers.
-/
import Derived.Test.YtaibmdikimpooaaDoorSbI
namespace Go.Proofs.YtaibmdikimpooaaDoor
open Go.RowKit

/-- no term -/
def zT : Tm := .node 0 ⟨#[]⟩ 0 none 0 []
theorem zT_in (w : World) (B : Nat) : TIn w B zT := .mk _ (by decide) (by decide) (by decide) (by decide) (by simp [zT, Tm.c]) (fun j h => by simp [zT, Tm.ks] at h) (fun k hk => by simp [zT, Tm.ks] at hk)
/-- what Put answers: the term, the error -/
def putO (t : Tm) (l : List As) : Tm × Nat :=
  if errR t ≠ 0 then (zT, errR t) else if gE l.reverse ≠ 0 then (zT, gE l.reverse) else if errR (rp (gF l.reverse) t) ≠ 0 then (zT, errR (rp (gF l.reverse) t)) else (rp (gF l.reverse) t, 0)
def SPutP (t : Tm) (l : List As) (w : World) (e : Ending) (w' : World) : Prop := ∃ x : Tm, e = .returned (.tuple #[x.val, .int .i64 ((putO t l).2 : Int)]) ∧ x.er = (putO t l).1 ∧ TIn w' w'.heap.size x ∧ Below w.heap.size w w'
theorem gF_from {nm : ByteArray} {s : Int} {x : Tm} : ∀ (l : List As) (F0 : ByteArray → Int → Option Tm), (l.foldl (fun F x => if errR x.2 = 0 then putT F x else F) F0) nm s = some x → F0 nm s = some x ∨ ∃ y ∈ l, y.2 = x ∧ errR x = 0 ∧ y.1 = nm ∧ s = (srtR x : Int)
  | [], F0, h => .inl h
  | y :: l, F0, h => by
    rw [List.foldl_cons] at h
    rcases gF_from l _ h with h | ⟨z, hz, r⟩
    · split at h
      · rename_i he
        unfold putT at h
        split at h
        · rename_i hh
          cases h
          exact .inr ⟨y, by simp, rfl, he, hh.1.symm, hh.2⟩
        · exact .inl h
      · exact .inl h
    · exact .inr ⟨z, by simp [hz], r⟩
theorem gF_mem {nm : ByteArray} {s : Int} {x : Tm} (l : List As) (h : gF l nm s = some x) : ∃ y ∈ l, y.2 = x ∧ errR x = 0 ∧ y.1 = nm ∧ s = (srtR x : Int) := by
  rcases gF_from l _ h with h | h
  · cases h
  · exact h
theorem errR_fine {t : Tm} (h : errR t = 0) : t.size ≤ 2000 ∧ t.deep ≤ 100 ∧ t.srt ≠ 0 ∧ srtR t = t.srt := by
  unfold errR at h
  split at h
  · cases h
  · rename_i hf
    split at h
    · cases h
    · rename_i hs
      unfold srtR
      rw [if_neg hf]
      unfold fullB at hf
      simp only [Bool.or_eq_true, decide_eq_true_eq, not_or] at hf
      refine ⟨by omega, by omega, hs, rfl⟩
theorem SbRow.later {w w' : World} {sv : Value} {l : List As} (h : SbRow w.heap.size w sv l) (hb : Below w.heap.size w w') : SbRow w'.heap.size w' sv l := by
  obtain ⟨a, c, e, h⟩ := h
  refine ⟨a, c, e, fun j hj => ?_⟩
  obtain ⟨b, o, ea, hl, hf⟩ := h j hj
  exact ⟨b, o, ea, Nat.lt_of_lt_of_le hl hb.size, hf.keep hb hl⟩
theorem AsIn.later {w w' : World} {x : As} (h : AsIn w x) (hb : Below w.heap.size w w') : AsIn w' x := ⟨h.1.later hb, h.2⟩
/-- what is told of an error -/
theorem SPutP.err {t : Tm} {l : List As} {w w' : World} {er : Nat} (h : putO t l = (zT, er)) (hb : Below w.heap.size w w') : SPutP t l w (.returned (.tuple #[.agg #[.int .i64 0, .string ⟨#[]⟩, .int .i64 0, .slice none 0 0], .int .i64 (er : Int)])) w' :=
  ⟨zT, by rw [h]; rfl, by rw [h]; rfl, zT_in _ _, hb⟩
/-- the world in which Put begins -/
def putW (t : Tm) (w : World) : World := (w.alloc (boxT t)).alloc (.cells #[.int .i64 0, .string ⟨#[]⟩, .int .i64 0, .slice none 0 0] 24)
set_option maxRecDepth 100000 in
set_option maxHeartbeats 4000000 in
theorem sput_any (t : Tm) (l : List As) (sv : Value) (w : World) (hin : TIn w w.heap.size t) (hI : SbRow w.heap.size w sv l) (hl : l.length ≤ 1000000) (hli : ∀ x ∈ l, AsIn w x) (hS : Shps w) : Calls Tryd.prog 22 #[t.val, sv] w (SPutP t l w) := by
  have hb2 : Below w.heap.size w (putW t w) := bal (bal (Below.refl _ _) _) _
  have F2 : Four (putW t w) w.heap.size 0 t := (box_four w t).later (bel_alloc _ _)
  have ST := mkHid (sort_any t (putW t w) (hin.later hb2) (hS.later hb2))
  have FR : FourV' (putW t w) (w.heap.size + 1) (.int .i64 0) (.string ⟨#[]⟩) (.int .i64 0) (.slice none 0 0) := by simp [FourV', putW, boxT, go_sem]
  have hW2 : (w.alloc (.cells #[.int .i64 t.op, .string t.nm, .int .i64 t.n, .slice t.a t.ks.length t.c] 24)).alloc (.cells #[.int .i64 0, .string ⟨#[]⟩, .int .i64 0, .slice none 0 0] 24) = putW t w := rfl
  have hX2 : (putW t w).heap.size = w.heap.size + 1 + 1 := by simp [putW]
  have HB2 := mkHid hb2
  have HIN := mkHid (hin.later hb2)
  have HS := mkHid (hS.later hb2)
  have HROW := mkHid (hI.later hb2)
  have HLI : Hid (∀ x ∈ l, AsIn (putW t w) x) := fun x hx => (hli x hx).later hb2
  have HLL := mkHid hl
  have HX2 := mkHid hX2
  clear hin hI hli hS hl hb2 hX2
  generalize putW t w = W2 at *
  have HF2 := mkHid F2
  have HFR := mkHid FR
  obtain ⟨f0, f1, f2, f3⟩ := F2
  simp only [Nat.zero_add] at f1 f2 f3
  unfold Tm.val at ST ⊢
  go_enter Tryd.func22, Tryd.ntmps22
  go_wp2_with fail
  ((with_reducible refine ST.out.mono ?_)); rintro e w3 ⟨rfl, hb3⟩
  clear f0 f1 f2 f3 ST hW2
  obtain ⟨f0, f1, f2, f3⟩ := HF2.out.later hb3
  simp only [Nat.zero_add] at f1 f2 f3
  have HB3 := mkHid (bon HB2.out hb3)
  have HIN3 := mkHid (HIN.out.later hb3)
  have HS3 := mkHid (HS.out.later hb3)
  have HFR3 := mkHid (HFR.out.later hb3)
  have HLI3 : Hid (∀ x ∈ l, AsIn w3 x) := fun x hx => (HLI.out x hx).later hb3
  have CG := mkHid (sgather_any l sv w3 (HROW.out.later hb3) HLL.out HLI3.out HS3.out)
  have HF3 := mkHid (HF2.out.later hb3)
  clear HIN HS HFR HROW HLI HF2 hb3 HB2 FR
  by_cases he : errR t = 0
  · rw [he]
    obtain ⟨z1, -, -, -⟩ := errR_fine he
    go_wp2_with fail
    ((with_reducible refine CG.out.mono ?_)); rintro e w4 ⟨n4, rfl, hP4, hb4⟩
    clear f0 f1 f2 f3 CG
    obtain ⟨f0, f1, f2, f3⟩ := HF3.out.later hb4
    simp only [Nat.zero_add] at f1 f2 f3
    have HB4 := mkHid (bon HB3.out hb4)
    have HIN4 := mkHid (HIN3.out.later hb4)
    have HS4 := mkHid (HS3.out.later hb4)
    have HFR4 := mkHid (HFR3.out.later hb4)
    have HLI4 : Hid (∀ x ∈ l, AsIn w4 x) := fun x hx => (HLI3.out x hx).later hb4
    by_cases hg : gE l.reverse = 0
    · rw [hg]
      have hsz : w3.heap.size < w4.heap.size := by
        obtain ⟨D, ⟨es, ck, hh, -⟩, -⟩ := hP4
        exact (Array.getElem?_eq_some_iff.1 hh).1
      have HM : Hid (MF (gF l.reverse) w3.heap.size n4 w4.heap.size w4) := ⟨hP4, fun nm s x hx => by
        obtain ⟨y, hy, rfl, -, -, -⟩ := gF_mem l.reverse hx
        exact (HLI4.out y (List.mem_reverse.1 hy)).1, hsz, Nat.le_refl _⟩
      have CR := mkHid (replace_any (gF l.reverse) w3.heap.size n4 w4.heap.size t w4 HIN4.out HM.out z1)
      unfold Tm.val at CR
      have HE := mkHid he
      have HG := mkHid hg
      clear hP4 hsz HM he hg HLI3 HLI4 HIN3 HS3 HFR3 HB3 hb4
      go_wp2_with fail
      ((with_reducible refine CR.out.mono ?_)); rintro e w5 ⟨x, rfl, hx1, hx2, -, hb5⟩
      clear CR f0 f1 f2 f3
      have hbx := bel_alloc w5 (boxT x)
      have hbx2 := bon hb5 hbx
      have CS := mkHid (sort_any x (w5.alloc (boxT x)) (hx2.later hbx) (HS4.out.later hbx2))
      have EX : errR x = errR (rp (gF l.reverse) t) := by rw [← er_errR, hx1]
      have HX1 := mkHid hx1
      have g4 := box_four w5 x
      have HB5 := mkHid (bon HB4.out hbx2)
      have HX5 := mkHid (hx2.later hbx)
      have HFR5 := mkHid (HFR4.out.later hbx2)
      have hWx : w5.alloc (.cells #[.int .i64 x.op, .string x.nm, .int .i64 x.n, .slice x.a x.ks.length x.c] 24) = w5.alloc (boxT x) := rfl
      rw [EX] at CS
      clear hx1 hx2 hb5 hbx hbx2 HS4 HFR4 HB4 HIN4
      generalize w5.alloc (boxT x) = W5 at *
      have HG4 := mkHid g4
      obtain ⟨f0, f1, f2, f3⟩ := g4
      simp only [Nat.zero_add] at f1 f2 f3
      unfold Tm.val at CS ⊢
      go_wp2_with fail
      ((with_reducible refine CS.out.mono ?_)); rintro e w6 ⟨rfl, hb6⟩
      clear f0 f1 f2 f3 CS hWx
      obtain ⟨f0, f1, f2, f3⟩ := HG4.out.later hb6
      simp only [Nat.zero_add] at f1 f2 f3
      have HB6 := mkHid (bon HB5.out hb6)
      have HX6 := mkHid (HX5.out.later hb6)
      have HFR6 := mkHid (HFR5.out.later hb6)
      clear hb6 HB5 HX5 HFR5 HG4
      by_cases hx : errR (rp (gF l.reverse) t) = 0
      · rw [hx]
        have hxe : errR x = 0 := by rw [EX]; exact hx
        have CC := mkHid (scopied_any x w6 HX6.out (errR_fine hxe).1)
        have HO : Hid (putO t l = (rp (gF l.reverse) t, 0)) := by
          show _ = _
          unfold putO
          rw [if_neg (by rw [HE.out]; simp), if_neg (by rw [HG.out]; simp), if_neg (by rw [hx]; simp)]
        unfold Tm.val at CC
        clear hx hxe EX HE HG
        go_wp2_with fail
        ((with_reducible refine CC.out.mono ?_)); rintro e w7 ⟨y, rfl, hy1, hy2, hyf, hb7⟩
        have HYF := mkHid hyf
        have hl6 : w.heap.size + 1 < w6.heap.size := World.block_lt_of_cell? _ _ HFR6.out.1
        have HL6 := mkHid hl6
        clear hyf hl6
        obtain ⟨r0, r1, r2, r3, r4, r5, r6, r7⟩ := HFR6.out.later hb7
        have HY1 := mkHid hy1
        have HY2 := mkHid hy2
        have HB7 := mkHid (bon HB6.out hb7)
        clear f0 f1 f2 f3 CC HFR6 hb7 hy1 hy2 HB6
        unfold Tm.val
        go_wp2
        refine bodyPost_ret (v := .tuple #[y.val, .int .i64 0]) (by simp [results, Tryd.results22, go_sem, r0, r1, r2, r3, Tm.val]) rfl ?_
        have hB : ∀ v0 v1 v2 v3, Below w.heap.size w ((((w7.setCell ⟨w.heap.size + 1, 0, none⟩ v0).setCell ⟨w.heap.size + 1, 1, none⟩ v1).setCell ⟨w.heap.size + 1, 2, none⟩ v2).setCell ⟨w.heap.size + 1, 3, none⟩ v3) := fun v0 v1 v2 v3 => bset (bset (bset (bset HB7.out (by simp) _) (by simp) _) (by simp) _) (by simp) _
        refine ⟨y, by rw [HO.out]; rfl, by rw [HY1.out, HX1.out, HO.out], ?_, hB _ _ _ _⟩
        have e : ∀ (W : World) p u, (W.setCell p u).heap.size = W.heap.size := fun W p u => by simp [World.setCell]
        rw [e, e, e, e]
        have hl := HL6.out
        exact (((HY2.out.setFar (p := ⟨w.heap.size + 1, 0, none⟩) HYF.out hl _).setFar (p := ⟨w.heap.size + 1, 1, none⟩) HYF.out hl _).setFar (p := ⟨w.heap.size + 1, 2, none⟩) HYF.out hl _).setFar (p := ⟨w.heap.size + 1, 3, none⟩) HYF.out hl _
      · have hne : ((errR (rp (gF l.reverse) t) : Int) != 0) = true := by rw [bne_iff_ne]; omega
        have HO : Hid (putO t l = (zT, errR (rp (gF l.reverse) t))) := by
          show _ = _
          unfold putO
          rw [if_neg (by rw [HE.out]; simp), if_neg (by rw [HG.out]; simp), if_pos hx]
        obtain ⟨r0, r1, r2, r3, r4, r5, r6, r7⟩ := HFR6.out
        clear hx EX HE HG f0 f1 f2 f3
        generalize errR (rp (gF l.reverse) t) = er at *
        go_wp2
        refine bodyPost_ret (v := .tuple #[.agg #[.int .i64 0, .string ⟨#[]⟩, .int .i64 0, .slice none 0 0], .int .i64 (er : Int)]) (by simp [results, Tryd.results22, go_sem, r0, r1, r2, r3]) rfl ?_
        exact SPutP.err HO.out (bset (bset (bset (bset HB6.out (by simp) _) (by simp) _) (by simp) _) (by simp) _)
    · have hne : ((gE l.reverse : Int) != 0) = true := by rw [bne_iff_ne]; omega
      have HO : Hid (putO t l = (zT, gE l.reverse)) := by
        show _ = _
        unfold putO
        rw [if_neg (by rw [he]; simp), if_pos hg]
      obtain ⟨r0, r1, r2, r3, r4, r5, r6, r7⟩ := HFR4.out
      clear hg he f0 f1 f2 f3
      generalize gE l.reverse = er at *
      go_wp2
      refine bodyPost_ret (v := .tuple #[.agg #[.int .i64 0, .string ⟨#[]⟩, .int .i64 0, .slice none 0 0], .int .i64 (er : Int)]) (by simp [results, Tryd.results22, go_sem, r0, r1, r2, r3]) rfl ?_
      exact SPutP.err HO.out (bset (bset (bset (bset HB4.out (by simp) _) (by simp) _) (by simp) _) (by simp) _)
  · have hne : ((errR t : Int) != 0) = true := by rw [bne_iff_ne]; omega
    have HO : Hid (putO t l = (zT, errR t)) := by
      show _ = _
      unfold putO
      rw [if_pos he]
    obtain ⟨r0, r1, r2, r3, r4, r5, r6, r7⟩ := HFR3.out
    clear he f0 f1 f2 f3 CG
    generalize errR t = er at *
    generalize srtR t = sr at *
    go_wp2
    refine bodyPost_ret (v := .tuple #[.agg #[.int .i64 0, .string ⟨#[]⟩, .int .i64 0, .slice none 0 0], .int .i64 (er : Int)]) (by simp [results, Tryd.results22, go_sem, r0, r1, r2, r3]) rfl ?_
    exact SPutP.err HO.out (bset (bset (bset (bset HB3.out (by simp) _) (by simp) _) (by simp) _) (by simp) _)
end Go.Proofs.YtaibmdikimpooaaDoor
