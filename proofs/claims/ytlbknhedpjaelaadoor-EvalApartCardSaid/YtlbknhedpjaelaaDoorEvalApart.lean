/-
  What EvalApart does: it returns true, whatever the term, the world, the name and the number are.
-/
import Derived.Test.YtlbknhedpjaelaaDoorEvN
import Derived.Test.YtlbknhedpjaelaaDoorEvQ
import Derived.Test.YtlbknhedpjaelaaDoorEvS
import Derived.Test.YtlbknhedpjaelaaDoorEvV
import Derived.Test.YtlbknhedpjaelaaDoorTmR
namespace Go.Proofs.YtlbknhedpjaelaaDoor
open Go.RowKit Go.Shelf

theorem hit_nm {nm nm' : ByteArray} {s : Int} {x : Nd} (h : nm.toList = nm'.toList) : hitN nm s x = hitN nm' s x := by unfold hitN; rw [h]
theorem holds_same {N : Int} {v u : Vl} (h : SameV v u) : holdsV N v = holdsV N u := by
  unfold holdsV; rw [h.1, h.2.1, h.2.2.1, h.2.2.2]
theorem right_of {W V : Wd} (hn : V.nodes = W.nodes) {P : List Nd} (hs : SameL V.l P) (h0 : 1 ≤ W.nodes ∧ W.nodes ≤ 64) (hl : P.length ≤ 64) (h1 : ∀ i (hi : i < P.length), nameB P[i].nm = true ∧ holdsV W.nodes P[i].v = true) (h2 : ∀ j (hj : j < P.length) i (hi : i < j), hitN P[j].nm P[j].v.sort P[i] = false) : rightB V = true := by
  rw [right_iff]
  obtain ⟨e, hs⟩ := hs
  refine ⟨⟨by omega, by omega, by omega⟩, fun i hi => ?_, fun j hj i hi => ?_⟩
  · obtain ⟨a, b⟩ := hs i hi (by omega)
    rw [a, holds_same b, hn]
    exact h1 i (by omega)
  · obtain ⟨a, b⟩ := hs j hj (by omega)
    obtain ⟨c, d⟩ := hs i (by omega) (by omega)
    rw [a, b.1, hit_key (by rw [c]) d.1]
    exact h2 j (by omega) i hi
theorem right_put {W V : Wd} {y : Nd} (hr : rightB W = true) (hn : V.nodes = W.nodes) (hs : SameL V.l (putN y W.l)) (hl : W.l.length < 64) (hy : nameB y.nm = true) (hv : holdsV W.nodes y.v = true) : rightB V = true := by
  obtain ⟨⟨a1, a2, a3⟩, h1, h2⟩ := (right_iff W).1 hr
  by_cases hf : findN y.nm y.v.sort W.l 0 = -1
  · rw [putN_no hf] at hs
    have hno := findN_none hf
    refine right_of hn hs ⟨a1, a2⟩ (by simp; omega) (fun i hi => ?_) (fun j hj i hi => ?_)
    · by_cases hk : i < W.l.length
      · rw [List.getElem_append_left hk]; exact h1 i hk
      · have : i = W.l.length := by simp at hi; omega
        subst this
        rw [List.getElem_append_right (by omega)]
        simpa using ⟨hy, hv⟩
    · by_cases hk : j < W.l.length
      · rw [List.getElem_append_left hk, List.getElem_append_left (by omega)]
        exact h2 j hk i hi
      · have : j = W.l.length := by simp at hj; omega
        subst this
        rw [List.getElem_append_right (by omega), List.getElem_append_left hi]
        simp only [Nat.sub_self, List.getElem_cons_zero]
        have := List.find?_eq_none.1 hno W.l[i] (List.getElem_mem hi)
        simpa using this
  · obtain ⟨k, hk, e, hf'⟩ := findN_some hf
    have e : findN y.nm y.v.sort W.l 0 = ((0 + k : Nat) : Int) := by rw [e]; omega
    rw [putN_yes e] at hs
    have hit := ((findN_iff hk).1 e).1
    unfold hitN at hit
    simp only [Bool.and_eq_true, beq_iff_eq] at hit
    have key : ∀ i (hi : i < W.l.length), ((W.l.set k y)[i]'(by simpa using hi)).nm.toList = W.l[i].nm.toList ∧ ((W.l.set k y)[i]'(by simpa using hi)).v.sort = W.l[i].v.sort := by
      intro i hi
      rw [List.getElem_set]
      by_cases h : k = i
      · subst h; rw [if_pos rfl]; exact ⟨hit.2.symm, hit.1.symm⟩
      · rw [if_neg h]; exact ⟨rfl, rfl⟩
    refine right_of hn hs ⟨a1, a2⟩ (by simp; omega) (fun i hi => ?_) (fun j hj i hi => ?_)
    · have hi' : i < W.l.length := by simpa using hi
      rw [List.getElem_set]
      by_cases h : k = i
      · rw [if_pos h]; exact ⟨hy, hv⟩
      · rw [if_neg h]; exact h1 i hi'
    · have hj' : j < W.l.length := by simpa using hj
      obtain ⟨b1, b2⟩ := key j hj'
      obtain ⟨c1, c2⟩ := key i (by omega)
      rw [hit_nm b1, b2, hit_key c1 c2]
      exact h2 j hj' i hi
theorem look_put {W V : Wd} {y : Nd} (hs : SameL V.l (putN y W.l)) {nm : ByteArray} {s : Int} (h : nm.toList ≠ y.nm.toList) : SameO (look W nm s) (look V nm s) := by
  have h1 := hs.find nm s
  rw [putN_other (by unfold hitN; rw [Bool.and_eq_false_iff]; right; rw [beq_eq_false_iff_ne]; exact fun e => h e.symm)] at h1
  exact h1.symm
/-- Names, of any term -/
theorem names_two (t : Tm) (w : World) (hin : TIn w w.heap.size t) (hS : Shps w) :
    Calls Tryd.prog 20 #[t.val] w fun e w' => (∃ (L : List Nm) (v : Value), e = .returned v ∧ w'.ownsRow w.heap.size 51 5 v L.length (asgs L) ∧ (errR t = 0 → ∀ x ∈ t.vars, x ∈ L)) ∧ Below w.heap.size w w' := by
  by_cases he : errR t = 0
  · exact (names_any t w hin hS he).mono fun e w' ⟨⟨L, v, h1, h2, h3⟩, hb⟩ => ⟨⟨L, v, h1, h2, fun _ x hx => (h3.2 x).2 hx⟩, hb⟩
  · exact (names_wrong t w hin hS he).mono fun e w' ⟨h1, hb⟩ => ⟨⟨[], _, h1, World.ownsRow_nil _ _ _ _, fun h => absurd h he⟩, hb⟩
/-- what lies in memory while EvalApart runs -/
structure SA (X : Nat) (t : Tm) (W : Wd) (w : World) : Prop where
  bt : Four w X 0 t
  bw : TwoW w (X + 1) W
  tin : TIn w w.heap.size t
  win : WIn w w.heap.size W
  s : Shps w
theorem SA.later {X : Nat} {t : Tm} {W : Wd} {w w' : World} (h : SA X t W w) (hb : Below w.heap.size w w') : SA X t W w' := ⟨h.bt.later hb, h.bw.later hb, h.tin.later hb, h.win.later hb, h.s.later hb⟩
theorem SA.start {t : Tm} {W : Wd} {w : World} (ht : TIn w w.heap.size t) (hW : WIn w w.heap.size W) (hS : Shps w) : SA w.heap.size t W ((w.alloc (boxT t)).alloc (boxW W)) := by
  have hb : Below w.heap.size w ((w.alloc (boxT t)).alloc (boxW W)) := bal (bal (Below.refl _ _) _) _
  refine ⟨(box_four w t).later (bel_alloc _ _), ?_, ht.later hb, hW.later hb, hS.later hb⟩
  have := boxW_two (w.alloc (boxT t)) W
  simpa using this
/-- an answer of Eval, whatever it is -/
def AnsE (so nn : Int) (bb : Bool) (l : List Bool) (k : Int) (w : World) (e : Ending) (w' : World) : Prop := ∃ a c, e = .returned (.tuple #[.agg #[.int .i64 so, .int .i64 nn, .bool bb, .slice a l.length c], .int .i64 k]) ∧ BIn w' w'.heap.size a l ∧ l.length ≤ maxLen ∧ Below w.heap.size w w'
def rSo : Except Int Vv → Int | .ok v => v.sort | .error _ => 0
def rNn : Except Int Vv → Int | .ok v => v.n | .error _ => 0
def rBb : Except Int Vv → Bool | .ok v => v.bb | .error _ => false
def rLl : Except Int Vv → List Bool | .ok v => v.l | .error _ => []
def rKk : Except Int Vv → Int | .ok _ => 0 | .error k => k
theorem ansE {r : Except Int Vv} {w : World} {e : Ending} {w' : World} (h : EvalP r w e w') : AnsE (rSo r) (rNn r) (rBb r) (rLl r) (rKk r) w e w' := by
  cases r with
  | ok v =>
    obtain ⟨a, c, he, ho, hb⟩ := h
    exact ⟨a, c, he, ho.bin, Nat.le_trans ho.cap.1 ho.cap.2, hb⟩
  | error k =>
    obtain ⟨he, hb⟩ := h
    exact ⟨none, 0, he, (fun j hj => by simp [rLl] at hj), Nat.zero_le _, hb⟩
/-- the value that EvalApart puts -/
def nV (n : Int) : Vl := ⟨1, n, false, none, 0, []⟩
set_option maxRecDepth 100000 in
set_option maxHeartbeats 8000000 in
theorem lapart_any (t : Tm) (W : Wd) (nm : ByteArray) (n : Int) (w : World) (ht : TIn w w.heap.size t) (hW : WIn w w.heap.size W) (hnm : nm.size ≤ maxLen) (hn : fitB n = true) (hS : Shps w) :
    Calls Tryd.prog 5 #[t.val, W.val, .string nm, .int .i64 n] w (RetB true w) := by
  have S0 := SA.start ht hW hS
  have B0 : Below w.heap.size w ((w.alloc (boxT t)).alloc (boxW W)) := bal (bal (Below.refl _ _) _) _
  have SC := mkHid (shownE _ S0.s)
  have NA := mkHid (fun w' (h : SA w.heap.size t W w') => names_two t w' h.tin h.s)
  have NB := mkHid (fun w' => name_any nm w' hnm)
  have RT := mkHid (fun w' (h : SA w.heap.size t W w') => right_any W w' h.win)
  have E1 := mkHid (fun w' (h : SA w.heap.size t W w') => (eval_any W t w' h.win h.tin h.s).mono fun e w'' h => ansE h)
  have hW2 : (w.alloc (.cells #[.int .i64 t.op, .string t.nm, .int .i64 t.n, .slice t.a t.ks.length t.c] 24)).alloc (.cells #[.int .i64 W.nodes, .slice W.a W.l.length W.c] 38) = (w.alloc (boxT t)).alloc (boxW W) := rfl
  generalize (w.alloc (boxT t)).alloc (boxW W) = W2 at *
  unfold Tm.val at NA E1 ⊢
  unfold Wd.val at RT E1 ⊢
  have HNM := mkHid hnm
  have HNF := mkHid hn
  clear ht hW hS hnm hn
  go_enter Tryd.func5, Tryd.ntmps5
  go_wp2_with fail
  ((with_reducible refine SC.out.mono ?_)); rintro e w3 ⟨rfl, hb3⟩
  clear SC hW2
  have S3 := S0.later hb3
  have B3 := bon B0 hb3
  obtain ⟨u0, u1, u2, u3⟩ := S3.bt
  simp only [Nat.zero_add] at u1 u2 u3
  go_wp2_with fail
  ((with_reducible refine (NA.out _ S3).mono ?_)); rintro e w4 ⟨⟨L, v, rfl, own, nof⟩, hb4⟩
  have S4 := S3.later hb4
  have B4 := bon B3 hb4
  clear u0 u1 u2 u3 S3 NA S0 hb3 hb4
  obtain ⟨A, c, rfl⟩ := own_slice own
  have HOWN := mkHid own
  have HNF2 := mkHid nof
  have hlen : L.length ≤ 9223372036854775807 := by
    rcases own.2 with ⟨-, h0⟩ | ⟨g, cap, cur, -, -, -, hc, hm, -⟩
    · omega
    · unfold maxLen at hm; omega
  clear own nof
  generalize hn' : L.length = m at *
  have HN := mkHid hn'
  clear hn'
  go_wp2
  go_loopw [11] (fun i w' => ∃ (k : Nat) (x : Int), i = .int .i64 x ∧ x = k ∧ k ≤ m ∧ Below w4.heap.size w4 w' ∧ Hid (∀ j, j < k → (L.getD j noNm).1.toList ≠ nm.toList)) (fun i _ => (m - intOf i).toNat)
  case atStart => exact ⟨0, 0, rfl, rfl, Nat.zero_le _, Below.refl _ _, fun j hj => by omega⟩
  case round =>
    obtain ⟨k, x, rfl, hxk, hk, hb, hne⟩ := hrel
    obtain rfl : x = (k : Int) := hxk
    have BR := bon B4 hb
    by_cases hlt : k < m
    · have own := own_later HOWN.out hb
      obtain ⟨g, c', e⟩ := own_some own (by omega)
      simp only [Value.slice.injEq, true_and] at e
      obtain ⟨rfl, rfl⟩ := e
      have y0 := (own_five own HN.out k hlt).1
      have HK : Hid ((L.getD k noNm).1.toList ≠ nm.toList → ∀ j, j < k + 1 → (L.getD j noNm).1.toList ≠ nm.toList) := fun h j hj => by
        by_cases e : j = k
        · rw [e]; exact h
        · exact hne.out j (by omega)
      clear own hne
      generalize (L.getD k noNm).1 = cn at *
      cases h2 : (cn.toList == nm.toList)
      · go_wp2
        go_roundw
        case rel => exact ⟨k + 1, _, rfl, by omega, by omega, hb, HK.out (by simpa using h2)⟩
        case measure => simp [intOf]; omega
      · go_wp2
        go_ret
        exact ⟨rfl, BR⟩
    · obtain rfl : k = m := by omega
      have HV : Hid (errR t = 0 → ∀ x ∈ t.vars, x.1.toList ≠ nm.toList) := fun he x hx => by
        obtain ⟨j, hj, rfl⟩ := (mem_getD L x).1 (HNF2.out he x hx)
        exact hne.out j (by rw [← HN.out]; exact hj)
      have SR := S4.later hb
      clear hne HN HNF2 HOWN S4 B4 hb
      go_wp2_with fail
      ((with_reducible refine (NB.out _).mono ?_)); rintro e w5 ⟨rfl, rfl⟩
      obtain ⟨p0, p1⟩ := SR.bw
      cases hnb : nameB nm
      · go_wp2
        go_ret
        exact ⟨rfl, BR⟩
      · go_wp2_with fail
        ((with_reducible refine (RT.out _ SR).mono ?_)); rintro e w6 ⟨rfl, hb6⟩
        have S6 := SR.later hb6
        have B6 := bon BR hb6
        clear p0 p1 SR BR RT
        obtain ⟨p0, p1⟩ := S6.bw
        have hm1 : W.l.length ≤ 9223372036854775807 := by have := S6.win.c; have := S6.win.m; unfold maxLen at this; omega
        cases hr : rightB W
        · go_wp2
          go_ret
          exact ⟨rfl, B6⟩
        · by_cases h64 : W.l.length < 64
          · have d1 : decide ((64 : Int) ≤ (W.l.length : Int)) = false := decide_eq_false (by omega)
            have hRt := right_rt hr S6.win
            have hvi : VIn w6 w6.heap.size (nV n) := ⟨by show fitB 1 = true; decide, HNF.out, by show (0 : Nat) ≤ 0; omega, by show (0 : Nat) ≤ maxLen; omega, fun j hj => by simp [nV] at hj⟩
            have WT := mkHid (with_any W nm (nV n) w6 S6.win hvi HNM.out (by omega) (fun x hx => by
              have h2 := (hRt.hv x hx).1
              have hi := hRt.hi
              unfold holdsV at h2
              split at h2
              · simp at h2; rw [h2.2]; simp
              · split at h2
                · simp at h2; omega
                · split at h2
                  · simp at h2; rw [h2.2]; simp
                  · split at h2
                    · simp at h2; rw [h2.2]; simp
                    · cases h2) (by show (0 : Nat) ≤ _; omega))
            have HRT := mkHid hr
            have HHV : Hid (holdsV W.nodes (nV n) = true) := rfl
            have H64 := mkHid h64
            have HNB := mkHid hnb
            unfold Wd.val Vl.val nV at WT
            simp only [List.length_nil] at WT
            clear hvi hRt h64
            go_wp2_with fail
            ((with_reducible refine WT.out.mono ?_)); rintro e w7 ⟨V, rfl, hVn, hVs, hVr, hb7⟩
            clear p0 p1 WT d1
            have b8 := bon hb7 (bel_alloc w7 (boxW V))
            have S8 := S6.later b8
            have B8 := bon B6 b8
            have TU : TwoW (w7.alloc (boxW V)) w7.heap.size V := boxW_two w7 V
            have VI : WIn (w7.alloc (boxW V)) (w7.alloc (boxW V)).heap.size V := (hVr.later (bel_alloc w7 (boxW V))).win (by rw [hVn]; exact S6.win.nd)
            have hrV := right_put (y := ⟨nm, ⟨1, n, false, none, 0, []⟩⟩) HRT.out hVn hVs H64.out HNB.out HHV.out
            have hEq : evalR V t = evalR W t := by
              by_cases he : errR t = 0
              · exact (evalR_same hVn.symm (by rw [HRT.out, hrV]) (fun x hx => look_put hVs (HV.out he x hx))).symm
              · unfold evalR; rw [if_neg he, if_neg he]
            have E2 := mkHid (fun w' (h : SA w.heap.size t W w') (hv : WIn w' w'.heap.size V) => (eval_any V t w' hv h.tin h.s).mono fun e w'' h => ansE h)
            rw [hEq] at E2
            have RV := mkHid (fun w' (hv : WIn w' w'.heap.size V) => right_any V w' hv)
            rw [hrV] at RV
            unfold Tm.val at E2
            unfold Wd.val at E2 RV
            generalize rSo (evalR W t) = so at *
            generalize rNn (evalR W t) = nn at *
            generalize rBb (evalR W t) = bb at *
            generalize rLl (evalR W t) = ll at *
            generalize rKk (evalR W t) = kk at *
            have hW8 : w7.alloc (.cells #[.int .i64 V.nodes, .slice V.a V.l.length V.c] 38) = w7.alloc (boxW V) := rfl
            clear hEq hrV hVn hVs hVr HV HRT HHV H64 HNB S6 B6 b8 hb7 hnb hr
            generalize w7.alloc (boxW V) = W8 at *
            obtain ⟨u0, u1, u2, u3⟩ := S8.bt
            obtain ⟨p0, p1⟩ := S8.bw
            simp only [Nat.zero_add] at u1 u2 u3
            go_wp2_with fail
            ((with_reducible refine (E1.out _ S8).mono ?_)); rintro e w9 ⟨a9, c9, rfl, bi9, hl9, hb9⟩
            clear u0 u1 u2 u3 p0 p1 E1 hW8
            have b10 := bon hb9 (bel_alloc w9 (.cells #[.int .i64 so, .int .i64 nn, .bool bb, .slice a9 ll.length c9] 41))
            have S10 := S8.later b10
            have B10 := bon B8 b10
            have TU10 := TU.later b10
            have VI10 := VI.later b10
            have V10 : FourV (w9.alloc (.cells #[.int .i64 so, .int .i64 nn, .bool bb, .slice a9 ll.length c9] 41)) w9.heap.size (.int .i64 so) (.int .i64 nn) (.bool bb) (.slice a9 ll.length c9) := by simp [FourV, go_sem]
            have BI10 : BIn (w9.alloc (.cells #[.int .i64 so, .int .i64 nn, .bool bb, .slice a9 ll.length c9] 41)) (w9.alloc (.cells #[.int .i64 so, .int .i64 nn, .bool bb, .slice a9 ll.length c9] 41)).heap.size a9 ll := (bi9.keep (bel_alloc _ _)).mono (by simp)
            clear bi9 b10 S8 B8 TU VI hb9
            generalize hW10 : w9.alloc (.cells #[.int .i64 so, .int .i64 nn, .bool bb, .slice a9 ll.length c9] 41) = W10 at *
            obtain ⟨u0, u1, u2, u3⟩ := S10.bt
            obtain ⟨p0, p1⟩ := TU10
            simp only [Nat.zero_add] at u1 u2 u3
            go_wp2_with fail
            ((with_reducible refine (E2.out _ S10 VI10).mono ?_)); rintro e w11 ⟨a11, c11, rfl, bi11, -, hb11⟩
            have TU10 : TwoW W10 w7.heap.size V := ⟨p0, p1⟩
            clear u0 u1 u2 u3 p0 p1 E2 hW10
            have b12 := bon hb11 (bel_alloc w11 (.cells #[.int .i64 so, .int .i64 nn, .bool bb, .slice a11 ll.length c11] 41))
            have S12 := S10.later b12
            have B12 := bon B10 b12
            have TU12 := TU10.later b12
            have VI12 := VI10.later b12
            have V12 := V10.later b12
            have BI12 := (BI10.keep b12).mono b12.size
            have X12 : FourV (w11.alloc (.cells #[.int .i64 so, .int .i64 nn, .bool bb, .slice a11 ll.length c11] 41)) w11.heap.size (.int .i64 so) (.int .i64 nn) (.bool bb) (.slice a11 ll.length c11) := by simp [FourV, go_sem]
            have BX12 : BIn (w11.alloc (.cells #[.int .i64 so, .int .i64 nn, .bool bb, .slice a11 ll.length c11] 41)) (w11.alloc (.cells #[.int .i64 so, .int .i64 nn, .bool bb, .slice a11 ll.length c11] 41)).heap.size a11 ll := (bi11.keep (bel_alloc _ _)).mono (by simp)
            clear bi11 b12 S10 B10 TU10 VI10 hb11 V10 BI10
            generalize hW12 : w11.alloc (.cells #[.int .i64 so, .int .i64 nn, .bool bb, .slice a11 ll.length c11] 41) = W12 at *
            obtain ⟨p0, p1⟩ := TU12
            go_wp2_with fail
            ((with_reducible refine (RV.out _ VI12).mono ?_)); rintro e w13 ⟨rfl, hb13⟩
            have B13 := bon B12 hb13
            obtain ⟨x0, x1, x2, x3, -⟩ := V12.later hb13
            obtain ⟨y0, y1, y2, y3, -⟩ := X12.later hb13
            have SM := mkHid (same_true so nn bb a9 a11 c9 c11 ll w13 ((BI12.keep hb13).mono hb13.size) ((BX12.keep hb13).mono hb13.size) (by unfold maxLen at hl9; omega))
            have hkk : (kk == kk) = true := by simp
            clear p0 p1 RV hW12
            go_wp2_with fail
            ((with_reducible refine SM.out.mono ?_)); rintro e w14 ⟨rfl, hb14⟩
            have B14 := bon B13 hb14
            go_wp2
            go_ret
            exact ⟨rfl, B14⟩
          · have d1 : decide ((64 : Int) ≤ (W.l.length : Int)) = true := decide_eq_true (by omega)
            go_wp2
            go_ret
            exact ⟨rfl, B6⟩
end Go.Proofs.YtlbknhedpjaelaaDoor
