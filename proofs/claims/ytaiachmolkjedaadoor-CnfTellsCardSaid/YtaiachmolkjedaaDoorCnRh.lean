/-
  The document's Clauses: the same clauses, atoms, numbers and errors as the program's.
-/
import Derived.Test.YtaiachmolkjedaaDoorCnRa
import Derived.Test.YtaiachmolkjedaaDoorCnRg
namespace Go.Proofs.YtaiachmolkjedaaDoor
open Go.RowKit

/-- what the document's Clauses answers -/
def RClP (t : Tm) (w : World) (e : Ending) (w' : World) : Prop := ∃ (vC vA : Value) (A : List Tm) (us : List Value), e = .returned (.tuple #[vC, vA, .int .i64 (cN t : Int), .int .i64 (cE t : Int)]) ∧ Below w.heap.size w w' ∧ CRows w' w.heap.size vC (cC t) us ∧ ROwn w' vA A ∧ (∀ x ∈ A, TIn w' w'.heap.size x ∧ x.deep ≤ 100) ∧ A.map Tm.er = cA t
theorem RClP.nothing {t : Tm} {w w' : World} {er : Int} (he : cE t ≠ 0) (her : er = (cE t : Int)) (hb : Below w.heap.size w w') : RClP t w (.returned (.tuple #[.slice none 0 0, .slice none 0 0, .int .i64 0, .int .i64 er])) w' := by
  refine ⟨.slice .none 0 0, .slice .none 0 0, [], [], ?_, hb, ?_, ROwn.nil _, fun x hx => (by cases hx), ?_⟩
  · have : cN t = 0 := by unfold cN; rw [if_neg he]
    rw [this, her]; rfl
  · have : cC t = [] := by unfold cC; rw [if_neg he]
    rw [this]; exact CRows.nil _ _
  · unfold cA; rw [if_neg he]; rfl
set_option maxRecDepth 100000 in
set_option maxHeartbeats 8000000 in
theorem rClauses_any (t : Tm) (w : World) (hin : TIn w w.heap.size t) : Calls Tryd.prog 37 #[t.val] w (RClP t w) := by
  have hb1 := bel_alloc w (boxT t)
  have f4 := box_four w t
  have ST := mkHid (rSort_any t _ (hin.later hb1))
  have hW : w.alloc (.cells #[.int .i64 t.op, .string t.nm, .int .i64 t.n, .slice t.a t.ks.length t.c] 24) = w.alloc (boxT t) := rfl
  have HB1 := mkHid hb1
  have HIN1 := mkHid (hin.later hb1)
  clear hb1 hin
  by_cases he : errR t = 0
  · obtain ⟨z1, z2, z3, z4⟩ := errR_okk he
    rw [he, z4] at ST
    by_cases h4 : t.srt = 4
    · have hE : cE t = 0 := cE_is he h4
      rw [h4] at ST
      have HZ : Hid (t.size ≤ 2000 ∧ t.deep ≤ 100 ∧ t.srt = 4 ∧ cE t = 0) := ⟨z1, z2, h4, hE⟩
      have HJ := mkHid (jcl_le t)
      have HH := mkHid (hlp_le t)
      clear he z1 z2 z3 z4 h4 hE
      generalize w.alloc (boxT t) = W at *
      have HF := mkHid f4
      obtain ⟨f0, f1, f2, f3⟩ := f4
      simp only [Nat.zero_add] at f1 f2 f3
      have HA : Hid (∀ w' : World, Below W.heap.size W w' → Calls Tryd.prog 67 #[.slice none 0 0, t.val] w' (RAt t [] w')) := fun w' hb => ratoms_any t w' _ [] (ROwn.nil w') (fun x hx => by cases hx) (by have := HZ.out.1; simp; omega) (HIN1.out.later hb) HZ.out.2.1
      unfold RAt Tm.val at HA
      unfold Tm.val at *
      go_enter Tryd.func37, Tryd.ntmps37
      go_wp2_with (go_at_call 12; ((with_reducible refine ST.out.mono ?_)); rintro e w2 ⟨rfl, hb2⟩; have g0 := cell_later hb2 f0; have g1 := cell_later hb2 f1; have g2 := cell_later hb2 f2; have g3 := cell_later hb2 f3; have HB2 := mkHid hb2; clear f0 f1 f2 f3 hb2)
      ((with_reducible refine (HA.out _ HB2.out).mono ?_)); rintro e w3 ⟨vA, A, rfl, hb3, ha3, he3, hl3⟩
      have HB3 := mkHid (bon HB2.out hb3)
      have HRO := mkHid ha3
      obtain ⟨aA, cAp, rfl, -, -⟩ : ∃ a c, vA = .slice a A.length c ∧ True ∧ True := by
        obtain ⟨b0, h⟩ := ha3
        obtain ⟨a, c, e⟩ := own_val h
        exact ⟨a, c, e, trivial, trivial⟩
      have hal : A.length ≤ 2000 := by
        have e := congrArg List.length hl3
        rw [List.length_map] at e
        have h1 := ats_le t ([] : List Tm)
        have h2 := HZ.out.1
        simp only [List.map_nil] at e
        simp only [List.length_nil] at h1
        omega
      have hcov : cov A t = true := by
        rw [← cov_cong (fun t => has_map A t), hl3]
        exact cov_ats t _
      have HCI : Hid (∀ w' : World, Below w3.heap.size w3 w' → CIn A (.slice aA A.length cAp) t A.length w') := fun w' hb =>
        CIn.later ⟨HRO.out.row (by omega), he3, HIN1.out.later HB3.out, HZ.out.2.2.1, hcov, HZ.out.2.1, HZ.out.1, hal, Nat.le_refl _, by have := HZ.out.1; omega⟩ hb
      have CC : Hid (∀ w' : World, Below w3.heap.size w3 w' → Calls Tryd.prog 68 #[.slice aA A.length cAp, t.val, .int .i64 (A.length : Int)] w' (ClsP A t A.length w')) := fun w' hb => rclauses_any A _ t A.length w' (HCI.out w' hb)
      have CL : Hid (∀ w' : World, Below w3.heap.size w3 w' → Calls Tryd.prog 69 #[.slice aA A.length cAp, t.val, .int .i64 (A.length : Int)] w' (RetV (.int .i64 (lit A t A.length)) w')) := fun w' hb => (HCI.out w' hb).lit
      have CH : Hid (∀ w' : World, Below w3.heap.size w3 w' → Calls Tryd.prog 70 #[t.val] w' (RetV (.int .i64 (hlp t : Int)) w')) := fun w' hb => (HCI.out w' hb).hlp
      have HELS := mkHid he3
      have HL3 := mkHid hl3
      have HS : Hid (∀ w' : World, Below w3.heap.size w3 w' → Four w' w.heap.size 0 t) := fun w' hb => (HF.out.later HB3.out).later hb
      have HBW3 := mkHid (bon HB1.out HB3.out)
      obtain ⟨f0, f1, f2, f3⟩ := HS.out w3 (Below.refl _ _)
      simp only [Nat.zero_add] at f1 f2 f3
      unfold Tm.val at CC CL CH
      have b1 : ((A.length : Nat) : Int) + (hlp t : Int) ≤ 9223372036854775807 := by have := HZ.out.1; have := HH.out; omega
      have b2 : -9223372036854775808 ≤ ((A.length : Nat) : Int) + (hlp t : Int) := by omega
      have b3 : ((A.length : Nat) : Int) ≤ 9223372036854775807 := by omega
      have b4 : IntKind.i64.wrap (((A.length : Nat) : Int) + (hlp t : Int)) = ((A.length : Nat) : Int) + (hlp t : Int) := by rw [IntKind.wrap_i64]; omega
      have b5 : wrap64 (((A.length : Nat) : Int) + (hlp t : Int)) = ((A.length : Nat) : Int) + (hlp t : Int) := by unfold wrap64; omega
      clear g0 g1 g2 g3 HB2 HA HF ST hW ha3 he3 hl3 hcov hb3 HCI
      have HAL := mkHid hal
      clear hal
      go_wp2_with (first
        | (go_at_call 68; ((with_reducible refine (CC.out _ (Below.refl _ _)).mono ?_)); rintro e w4 ⟨vC, us, rfl, hb4, hc4⟩; have HB4 := mkHid hb4; have HC4 := mkHid hc4; obtain ⟨k0, k1, k2, k3⟩ := HS.out w4 hb4; simp only [Nat.zero_add] at k1 k2 k3; clear hb4 hc4)
        | (go_at_call 69; ((with_reducible refine (CL.out _ HB4.out).mono ?_)); rintro e w5 ⟨rfl, hb5⟩; have HB5 := mkHid (bon HB4.out hb5); have HC5 := mkHid (HC4.out.later hb5); clear hb5 k0 k1 k2 k3))
      (try dsimp only [List.append])
      refine wp_region_held_drew (S := fun w' => Four w' w.heap.size 0 t) (by kernel_rfl) (HS.out _ (bon HB5.out (bdrew (Below.refl w5.heap.size w5)))) (fun hHeld => ?_)
      have HBV := mkHid (bon HB5.out (bdrew (Below.refl w5.heap.size w5)))
      have HCV := mkHid (HC5.out.later (bdrew (Below.refl w5.heap.size w5)))
      clear f0 f1 f2 f3 HC4 HC5 HB4 HB5 CC CL
      generalize w5.drew = V at *
      obtain ⟨z, hz⟩ : ∃ z : Int, lit A t A.length = z := ⟨_, rfl⟩
      have HZL := mkHid hz
      rw [hz]
      clear hz
      have b6 := bel_alloc V (.cells #[.int .i64 z] 3)
      have ho := own_lit (w := V) [z] 1 #[.int .i64 z] rfl (by omega) rfl
      have b7 := bel_alloc (V.alloc (.cells #[.int .i64 z] 3)) (.cells #[.slice (some ⟨V.heap.size, 0, none⟩) 1 1] 54)
      have hone := one_cell (V.alloc (.cells #[.int .i64 z] 3)) (.slice (some ⟨V.heap.size, 0, none⟩) 1 1) 54
      obtain ⟨v9, w9, hrun, hc9, hb9⟩ := run_row (HCV.out.later (bon b6 b7)) (own_base (own_lat' ho b7) HBV.out.size) hone (by have := HJ.out; have := HZ.out.1; rw [cls_len]; omega) (bon HBV.out (bon b6 b7)).size
      have HC9 := mkHid hc9
      have BX6 := mkHid (bon HBV.out b6)
      have BX7 := mkHid (bon HBV.out (bon b6 b7))
      have BX9 := mkHid ((bon HBV.out (bon b6 b7)).trans hb9)
      rw [size_alloc] at hrun
      clear b6 b7 ho hone hc9 hb9 HCV
      refine wpAnyH_take (i := 0) (v := ?_) rfl (by kernel_rfl) (by kernel_rfl) (by kernel_rfl) (fun _ _ _ h => h) (Or.inl ⟨by kernel_rfl, ?_⟩) (by assumption) ?_
      rotate_left
      · (intro w hSw; clear hSw; go_simp; try with_reducible rfl)
      simp only [Act.put, List.getElem_toArray, List.getElem_cons_zero, List.setIfInBounds_toArray, List.set_cons_zero, List.set_cons_succ]
      refine wpAnyH_take (i := 1) (v := ?_) rfl (by kernel_rfl) (by kernel_rfl) (by kernel_rfl) (fun _ _ _ h => h) (Or.inl ⟨by kernel_rfl, ?_⟩) (by assumption) ?_
      rotate_left
      · (intro w hSw; clear hSw; go_simp; try with_reducible rfl)
      simp only [Act.put, List.getElem_toArray, List.getElem_cons_succ, List.getElem_cons_zero, List.setIfInBounds_toArray, List.set_cons_zero, List.set_cons_succ]
      refine wpAnyH_take (i := 5) (v := ?_) rfl (by kernel_rfl) (by kernel_rfl) (by kernel_rfl) (fun _ _ _ h => h) (Or.inl ⟨by kernel_rfl, ?_⟩) (by assumption) ?_
      rotate_left
      · (intro w hSw; clear hSw; go_simp; try with_reducible rfl)
      simp only [Act.put, List.getElem_toArray, List.getElem_cons_succ, List.getElem_cons_zero, List.setIfInBounds_toArray, List.set_cons_zero, List.set_cons_succ]
      refine wpAnyH_take (i := 6) (v := ?_) rfl (by kernel_rfl) (by kernel_rfl) (by kernel_rfl) (fun _ _ _ h => h) (Or.inl ⟨by kernel_rfl, ?_⟩) (by assumption) ?_
      rotate_left
      · (intro w hSw; clear hSw; go_simp; try with_reducible rfl)
      simp only [Act.put, List.getElem_toArray, List.getElem_cons_succ, List.getElem_cons_zero, List.setIfInBounds_toArray, List.set_cons_zero, List.set_cons_succ]
      refine wpAnyH_take (i := 7) (v := ?_) rfl (by kernel_rfl) (by kernel_rfl) (by kernel_rfl) (fun _ _ _ h => h) (Or.inl ⟨by kernel_rfl, ?_⟩) (by assumption) ?_
      rotate_left
      · (intro w hSw; obtain ⟨s0, s1, s2, s3⟩ := hSw; simp only [Nat.zero_add] at s1 s2 s3; go_simp; try with_reducible rfl)
      simp only [Act.put, List.getElem_toArray, List.getElem_cons_succ, List.getElem_cons_zero, List.setIfInBounds_toArray, List.set_cons_zero, List.set_cons_succ]
      refine wpAnyH_ready (rs := [2]) (by kernel_rfl) (by simp) ?_
      refine AllReadyH.cons rfl (fun K hK => ?_) AllReadyH.nil
      go_simp
      refine hK.out _ _ (HS.out _ BX6.out) (fun hHeld => ?_)
      clear hK
      refine wpAnyH_ready (rs := [3]) (by kernel_rfl) (by simp) ?_
      refine AllReadyH.cons rfl (fun K hK => ?_) AllReadyH.nil
      go_simp
      refine hK.out _ _ (HS.out _ BX7.out) (fun hHeld => ?_)
      clear hK
      refine wpAnyH_ready (rs := [4]) (by kernel_rfl) (by simp) ?_
      refine AllReadyH.cons rfl (fun K hK => ?_) AllReadyH.nil
      refine step_run (by rfl) _ _ (by rfl) (by rfl) (by rfl) (by rfl) hrun ?_
      refine hK.out _ _ (HS.out _ BX9.out) (fun hHeld => ?_)
      clear hK hrun
      refine wpAnyH_ready (rs := [8]) (by kernel_rfl) (by simp) ?_
      refine AllReadyH.cons rfl (fun K hK => ?_) AllReadyH.nil
      go_simp
      go_wp2_with (go_at_call 70; ((with_reducible refine (CH.out _ BX9.out).mono ?_)); rintro e w10 ⟨rfl, hb10⟩; have BX10 := mkHid (bon BX9.out hb10); have HC10 := mkHid (HC9.out.later hb10); clear hb10)
      refine hK.out _ _ (HS.out _ BX10.out) (fun hHeld => ?_)
      clear hK
      refine wpAnyH_take (i := 9) (v := ?_) rfl (by kernel_rfl) (by kernel_rfl) (by kernel_rfl) (fun _ _ _ h => h) (Or.inl ⟨by kernel_rfl, ?_⟩) (by assumption) ?_
      rotate_left
      · (intro w hSw; clear hSw; go_simp; try with_reducible rfl)
      simp only [Act.put, List.getElem_toArray, List.getElem_cons_succ, List.getElem_cons_zero, List.setIfInBounds_toArray, List.set_cons_zero, List.set_cons_succ]
      refine wpAnyH_take (i := 10) (v := ?_) rfl (by kernel_rfl) (by kernel_rfl) (by kernel_rfl) (fun _ _ _ h => h) (Or.inl ⟨by kernel_rfl, ?_⟩) (by assumption) ?_
      rotate_left
      · (intro w hSw; clear hSw; go_simp; try with_reducible rfl)
      simp only [Act.put, List.getElem_toArray, List.getElem_cons_succ, List.getElem_cons_zero, List.setIfInBounds_toArray, List.set_cons_zero, List.set_cons_succ]
      refine wpAnyH_take (i := 11) (v := ?_) rfl (by kernel_rfl) (by kernel_rfl) (by kernel_rfl) (fun _ _ _ h => h) (Or.inl ⟨by kernel_rfl, ?_⟩) (by assumption) ?_
      rotate_left
      · (intro w hSw; clear hSw; go_simp; try with_reducible rfl)
      simp only [Act.put, List.getElem_toArray, List.getElem_cons_succ, List.getElem_cons_zero, List.setIfInBounds_toArray, List.set_cons_zero, List.set_cons_succ]
      refine wpAnyH_take (i := 12) (v := ?_) rfl (by kernel_rfl) (by kernel_rfl) (by kernel_rfl) (fun _ _ _ h => h) (Or.inl ⟨by kernel_rfl, ?_⟩) (by assumption) ?_
      rotate_left
      · (intro w hSw; clear hSw; go_simp; try with_reducible rfl)
      simp only [Act.put, List.getElem_toArray, List.getElem_cons_succ, List.getElem_cons_zero, List.setIfInBounds_toArray, List.set_cons_zero, List.set_cons_succ]
      refine wpAnyH_take (i := 13) (v := ?_) rfl (by kernel_rfl) (by kernel_rfl) (by kernel_rfl) (fun _ _ _ h => h) (Or.inl ⟨by kernel_rfl, ?_⟩) (by assumption) ?_
      rotate_left
      · (intro w hSw; clear hSw; go_simp; try with_reducible rfl)
      simp only [Act.put, List.getElem_toArray, List.getElem_cons_succ, List.getElem_cons_zero, List.setIfInBounds_toArray, List.set_cons_zero, List.set_cons_succ]
      refine wpAnyH_done (by kernel_rfl) ?_ _
      go_wp2
      refine bodyPost_ret (v := .tuple #[v9, .slice aA A.length cAp, .int .i64 (((A.length : Nat) : Int) + (hlp t : Int)), .int .i64 0]) (by simp [results, Tryd.results37, go_sem]) rfl ?_
      have hE := HZ.out.2.2.2
      have hl := HL3.out
      rw [List.map_nil] at hl
      have hcn : cN t = A.length + hlp t := by
        unfold cN
        rw [if_pos hE, ← hl, List.length_map]
      have hcc : cC t = cls A t A.length ++ [[z]] := by
        unfold cC
        rw [if_pos hE, ← hl, List.length_map, cls_cong (fun t => fnd_map A t), lit_cong (fun t => fnd_map A t), HZL.out]
      have hbb := bon HBW3.out BX10.out
      refine ⟨v9, _, A, _, ?_, hbb, by rw [hcc]; exact HC10.out.base_le HBW3.out.size, HRO.out.later BX10.out, fun x hx => ⟨(HELS.out x hx).1.later BX10.out, (HELS.out x hx).2⟩, ?_⟩
      · rw [hcn, hE]; simp
      · rw [hl]; unfold cA; rw [if_pos hE]
    · have hE : cE t = 3 := by unfold cE; rw [if_neg (by omega), if_pos h4]
      have hne : ((t.srt : Int) != 4) = true := by rw [bne_iff_ne]; omega
      have HE := mkHid hE
      generalize t.srt = sr at *
      clear he z1 z2 z3 z4 h4 hE
      generalize w.alloc (boxT t) = W at *
      obtain ⟨f0, f1, f2, f3⟩ := f4
      simp only [Nat.zero_add] at f1 f2 f3
      unfold Tm.val at *
      go_enter Tryd.func37, Tryd.ntmps37
      go_wp2_with (go_at_call 12; ((with_reducible refine ST.out.mono ?_)); rintro e w2 ⟨rfl, hb2⟩)
      refine bodyPost_ret (v := .tuple #[.slice none 0 0, .slice none 0 0, .int .i64 0, .int .i64 3]) (by simp [results, Tryd.results37, go_sem]) rfl ?_
      exact RClP.nothing (by rw [HE.out]; omega) (by rw [HE.out]; rfl) (bon HB1.out hb2)
  · have hE : cE t = errR t := by unfold cE; rw [if_pos he]
    have HE := mkHid hE
    have HNE := mkHid he
    have hne : ((errR t : Int) != 0) = true := by rw [bne_iff_ne]; omega
    generalize errR t = er at *
    generalize srtR t = sr at *
    clear he hE
    generalize w.alloc (boxT t) = W at *
    obtain ⟨f0, f1, f2, f3⟩ := f4
    simp only [Nat.zero_add] at f1 f2 f3
    unfold Tm.val at *
    go_enter Tryd.func37, Tryd.ntmps37
    go_wp2_with (go_at_call 12; ((with_reducible refine ST.out.mono ?_)); rintro e w2 ⟨rfl, hb2⟩)
    refine bodyPost_ret (v := .tuple #[.slice none 0 0, .slice none 0 0, .int .i64 0, .int .i64 (er : Int)]) (by simp [results, Tryd.results37, go_sem]) rfl ?_
    exact RClP.nothing (by rw [HE.out]; exact HNE.out) (by rw [HE.out]) (bon HB1.out hb2)
end Go.Proofs.YtaiachmolkjedaaDoor
