/-
  The document's Atoms: what a formula's atoms are, in order.
-/
import Derived.Test.YtaiachmolkjedaaDoorCnR
namespace Go.Proofs.YtaiachmolkjedaaDoor
open Go.RowKit

/-- a row of terms of someone's own -/
def ROwn (w : World) (v : Value) (L : List Tm) : Prop := ∃ base, w.ownsRow base 24 4 v L.length (L.flatMap tm4)
theorem ROwn.later {w w' : World} {v : Value} {L : List Tm} (h : ROwn w v L) (hb : Below w.heap.size w w') : ROwn w' v L := by
  obtain ⟨b, h⟩ := h
  exact ⟨b, own_lat' h hb⟩
theorem ROwn.row {w : World} {v : Value} {L : List Tm} (h : ROwn w v L) (hl : L.length ≤ 4000) : Row4 w v L := by
  obtain ⟨b0, h⟩ := h
  obtain ⟨a, cap, e, hc, hm⟩ := own_is h
  refine ⟨a, cap, e, by unfold maxLen; omega, fun j hj => ?_⟩
  obtain ⟨g, cap', e'⟩ := own_some h (by omega)
  rw [e] at e'
  simp only [Value.slice.injEq, true_and] at e'
  obtain ⟨rfl, rfl⟩ := e'
  rw [e] at h
  refine ⟨g, 0, rfl, (own_lt h rfl).2, ?_⟩
  rw [Nat.zero_add]
  exact own_four h j hj
theorem ROwn.nil (w : World) : ROwn w (.slice none 0 0) [] := ⟨0, rfl, .inl ⟨rfl, rfl⟩⟩
/-- an append of terms that can be read -/
theorem run_terms {w : World} {base : Nat} {v0 v : Value} {A L : List Tm} (h0 : w.ownsRow base 24 4 v0 A.length (A.flatMap tm4)) (h : ROwn w v L) (hl : A.length + L.length ≤ 8000) (hb : base ≤ w.heap.size) :
    ∃ v' w', (Builtin.append_ #[22, 22] 22 #[v0, v]).run Tryd.prog w = .ok v' w' ∧ w'.ownsRow base 24 4 v' (A ++ L).length ((A ++ L).flatMap tm4) ∧ w.grownBy w' v0.ownBlock := by
  obtain ⟨i0, hi0, hz0, hz1, hz2⟩ := tm_parts
  obtain ⟨b1, h⟩ := h
  rcases h.2 with ⟨rfl, h1⟩ | ⟨g, cap, cur, rfl, -⟩
  · have hL : L = [] := List.length_eq_zero_iff.1 h1
    subst hL
    refine ⟨v0, w, run_append_owned_none w base 22 22 24 i0 4 Tryd.underlying22 hi0 v0 A.length (A.flatMap tm4) h0, by simpa using h0, ⟨rfl, rfl, rfl, Nat.le_refl _, fun _ _ _ => rfl⟩⟩
  · have hcs : ∀ j x, (L.flatMap tm4)[j]? = some x → w.cell? ((⟨g, 0, none⟩ : Addr).add j) = some x := fun j x hx => by
      have hj : j < (L.flatMap tm4).length := (List.getElem?_eq_some_iff.1 hx).1
      rw [tm4_len] at hj
      rw [Go.WideShapes.add_plain, Nat.zero_add, h.cellAt j (by omega)]; exact hx
    obtain ⟨v', w', e, k2, k3, -, -⟩ := run_append_own_at (P := Tryd.prog) w base 22 22 24 i0 _ 4 56 Tryd.underlying22 hi0 hz0 hz1 hz2 rfl (by omega) v0 A.length (A.flatMap tm4) h0 ⟨g, 0, none⟩ L.length cap (L.flatMap tm4) (by rw [tm4_len]) hcs (tm4_ones L) (by unfold maxLen; omega) (by omega) hb
    exact ⟨v', w', e, by rw [List.length_append, List.flatMap_append]; exact k2, k3⟩
theorem nil_terms (w : World) : (w.alloc (.cells #[] 24)).ownsRow w.heap.size 24 4 (.slice (some ⟨w.heap.size, 0, none⟩) 0 0) ([] : List Tm).length (([] : List Tm).flatMap tm4) :=
  World.ownsRow_lit (base := w.heap.size) (size := 4) (e := 24) w #[] 0 (Nat.le_refl _) (by decide) rfl
theorem one_term (w : World) (t : Tm) : (w.alloc (.cells #[.int .i64 t.op, .string t.nm, .int .i64 t.n, .slice t.a t.ks.length t.c] 24)).ownsRow w.heap.size 24 4 (.slice (some ⟨w.heap.size, 0, none⟩) 1 1) [t].length ([t].flatMap tm4) :=
  World.ownsRow_lit (base := w.heap.size) (size := 4) (e := 24) w #[.int .i64 t.op, .string t.nm, .int .i64 t.n, .slice t.a t.ks.length t.c] 1 (Nat.le_refl _) (by decide) rfl
/-- what the document's Atoms answers -/
def RAt (t : Tm) (L : List Tm) (w : World) (e : Ending) (w' : World) : Prop := ∃ (v' : Value) (A : List Tm), e = .returned v' ∧ Below w.heap.size w w' ∧ ROwn w' v' A ∧ (∀ x ∈ A, TIn w' w'.heap.size x ∧ x.deep ≤ 100) ∧ A.map Tm.er = ats t (L.map Tm.er)
theorem sizes_take {ks : List Tm} {k : Nat} (h : k < ks.length) : Tm.sizes (ks.take k) + ks[k].size ≤ Tm.sizes ks := by
  have happ : ∀ a b : List Tm, Tm.sizes (a ++ b) = Tm.sizes a + Tm.sizes b := by
    intro a b
    induction a with
    | nil => simp [Tm.sizes]
    | cons x a ih => simp only [List.cons_append, Tm.sizes, ih]; omega
  have e := congrArg Tm.sizes (List.take_append_drop (k + 1) ks)
  rw [happ, take1 h, happ] at e
  simp only [Tm.sizes] at e
  omega
set_option maxRecDepth 100000 in
set_option maxHeartbeats 8000000 in
theorem ratoms_leaf (t : Tm) (hj : jnB t.op = false) (w : World) (v : Value) (L : List Tm) (hr : ROwn w v L) (hL : ∀ x ∈ L, TIn w w.heap.size x ∧ x.deep ≤ 100) (hl : L.length ≤ 3999) (ht : TIn w w.heap.size t) (hd : t.deep ≤ 100) :
    Calls Tryd.prog 67 #[v, t.val] w (RAt t L w) := by
  have B0 := bel_alloc w (boxT t)
  have F1 := box_four w t
  have hW : w.alloc (.cells #[.int .i64 t.op, .string t.nm, .int .i64 t.n, .slice t.a t.ks.length t.c] 24) = w.alloc (boxT t) := rfl
  have CJ := mkHid (rjoins_any t.op (w.alloc (boxT t)))
  rw [hj] at CJ
  have CF := mkHid (fun w1 (hb : Below (w.alloc (boxT t)).heap.size (w.alloc (boxT t)) w1) => find_any L t v w1 ((hr.later (bon B0 hb)).row (by omega)) (fun x hx => ⟨(hL x hx).1.later (bon B0 hb), (hL x hx).2⟩) (ht.later (bon B0 hb)) hd)
  have HE : Hid (ats t (L.map Tm.er) = if has L t then L.map Tm.er else L.map Tm.er ++ [t.er]) := by
    show _ = _
    rw [ats_eq, if_neg (by rw [hj]; simp), has_map]
  have HR := mkHid hr
  have HL := mkHid hL
  have HT := mkHid ht
  have HD := mkHid hd
  have HF := mkHid F1
  clear hr hL ht hd hj
  generalize w.alloc (boxT t) = W at *
  have HB0 := mkHid B0
  obtain ⟨f0, f1, f2, f3⟩ := F1
  simp only [Nat.zero_add] at f1 f2 f3
  unfold Tm.val at *
  by_cases hh : has L t = true
  · rw [if_pos hh] at HE
    rw [plc_cov hh] at CF
    have hnn : ¬ ((fnd L t : Nat) : Int) < 0 := by omega
    clear hh
    generalize fnd L t = f at *
    go_enter Tryd.func67, Tryd.ntmps67
    go_wp2_with (first
      | (go_at_call 89; ((with_reducible refine CJ.out.mono ?_)); rintro e w1 ⟨rfl, hb1⟩; have k0 := cell_later hb1 f0; have k1 := cell_later hb1 f1; have k2 := cell_later hb1 f2; have k3 := cell_later hb1 f3)
      | (go_at_call 66; ((with_reducible refine (CF.out _ hb1).mono ?_)); rintro e w2 ⟨rfl, hb2⟩))
    go_ret
    have hbb := bon HB0.out (bon hb1 hb2)
    exact ⟨v, L, rfl, hbb, HR.out.later hbb, fun x hx => ⟨(HL.out x hx).1.later hbb, (HL.out x hx).2⟩, HE.out.symm⟩
  · rw [if_neg hh] at HE
    have hp : plc L t = -1 := by unfold plc; rw [if_neg hh]
    rw [hp] at CF
    clear hh hp
    go_enter Tryd.func67, Tryd.ntmps67
    go_wp2_with (first
      | (go_at_call 89; ((with_reducible refine CJ.out.mono ?_)); rintro e w1 ⟨rfl, hb1⟩; have k0 := cell_later hb1 f0; have k1 := cell_later hb1 f1; have k2 := cell_later hb1 f2; have k3 := cell_later hb1 f3)
      | (go_at_call 66; ((with_reducible refine (CF.out _ hb1).mono ?_)); rintro e w2 ⟨rfl, hb2⟩; have HB2 := mkHid (bon hb1 hb2)))
    (try dsimp only [List.append])
    have HS : Hid (∀ w', Below W.heap.size W w' → Four w' w.heap.size 0 t) := fun w' hb => HF.out.later hb
    clear f0 f1 f2 f3 k0 k1 k2 k3 CJ CF hb1 hb2
    refine wp_region_held_drew (S := fun w' => Four w' w.heap.size 0 t) (by kernel_rfl) (HS.out _ (bon HB2.out (bdrew (Below.refl w2.heap.size w2)))) (fun hHeld => ?_)
    have HWc := mkHid (bon HB2.out (bdrew (Below.refl w2.heap.size w2)))
    have HBc := mkHid (bon HB0.out HWc.out)
    clear HB2 hW
    generalize w2.drew = V at *
    refine wpAnyH_take (i := 1) (v := ?_) rfl (by kernel_rfl) (by kernel_rfl) (by kernel_rfl) (fun _ _ _ h => h) (Or.inl ⟨by kernel_rfl, ?_⟩) (by assumption) ?_
    rotate_left
    · (intro w hSw; clear hSw; go_simp; try with_reducible rfl)
    simp only [Act.put, List.getElem_toArray, List.getElem_cons_succ, List.getElem_cons_zero, List.setIfInBounds_toArray, List.set_cons_zero, List.set_cons_succ]
    refine wpAnyH_take (i := 3) (v := ?_) rfl (by kernel_rfl) (by kernel_rfl) (by kernel_rfl) (fun _ _ _ h => h) (Or.inl ⟨by kernel_rfl, ?_⟩) (by assumption) ?_
    rotate_left
    · (intro w hSw; obtain ⟨s0, s1, s2, s3⟩ := hSw; simp only [Nat.zero_add] at s1 s2 s3; go_simp; try with_reducible rfl)
    simp only [Act.put, List.getElem_toArray, List.getElem_cons_succ, List.getElem_cons_zero, List.setIfInBounds_toArray, List.set_cons_zero, List.set_cons_succ]
    refine wpAnyH_ready (rs := [0, 4]) (by kernel_rfl) (by simp) ?_
    refine AllReadyH.cons rfl (fun K hK => ?_) ?_
    · have b0 := bel_alloc V (.cells #[] 24)
      have R0 := mkHid (nil_terms V)
      obtain ⟨g0, hg0⟩ : ∃ g0, V.heap.size = g0 := ⟨_, rfl⟩
      rw [hg0] at R0
      have G0 := mkHid (show W.heap.size ≤ g0 by rw [← hg0]; exact HWc.out.size)
      replace HWc := mkHid (bon HWc.out b0)
      replace HBc := mkHid (bon HBc.out b0)
      have GLE : Hid (g0 ≤ (V.alloc (.cells #[] 24)).heap.size) := by show _ ≤ _; rw [size_alloc]; omega
      go_simp
      (try rw [hg0])
      refine hK.out _ _ (HS.out _ HWc.out) (fun hHeld => ?_)
      clear hK
      clear b0 hg0
      generalize V.alloc (.cells #[] 24) = W0 at *
      refine wpAnyH_ready (rs := [2, 4]) (by kernel_rfl) (by simp) ?_
      refine AllReadyH.cons rfl (fun K hK => ?_) ?_
      · obtain ⟨v2, W2, hrun, hr2, hgr⟩ := run_terms R0.out (HR.out.later HBc.out) (by simp; omega) (Nat.le_of_lt (own_lt R0.out rfl).2)
        rw [List.nil_append] at hr2
        have R2 := mkHid hr2
        have b0 := below_grown (B := W.heap.size) hgr (fun k hk => by simp only [Value.ownBlock, Option.some.injEq] at hk; have := G0.out; omega) HWc.out.size
        have b1 := below_grown (B := w.heap.size) hgr (fun k hk => by simp only [Value.ownBlock, Option.some.injEq] at hk; have := G0.out; have := HB0.out.size; omega) HBc.out.size
        replace HWc := mkHid (HWc.out.trans b0)
        replace HBc := mkHid (HBc.out.trans b1)
        replace GLE : Hid (g0 ≤ W2.heap.size) := Nat.le_trans GLE.out hgr.size
        clear hr2 hgr b0 b1
        refine step_run (by rfl) _ _ (by rfl) (by rfl) (by rfl) (by rfl) hrun ?_
        refine hK.out _ _ (HS.out _ HWc.out) (fun hHeld => ?_)
        clear hK
        clear hrun R0
        refine wpAnyH_ready (rs := [4]) (by kernel_rfl) (by simp) ?_
        refine AllReadyH.cons rfl (fun K hK => ?_) AllReadyH.nil
        have b0 := bel_alloc W2 (.cells #[.int .i64 t.op, .string t.nm, .int .i64 t.n, .slice t.a t.ks.length t.c] 24)
        have O4 := mkHid (one_term W2 t)
        obtain ⟨g4, hg4⟩ : ∃ g4, W2.heap.size = g4 := ⟨_, rfl⟩
        rw [hg4] at O4
        replace R2 := mkHid (own_lat' R2.out b0)
        replace HWc := mkHid (bon HWc.out b0)
        replace HBc := mkHid (bon HBc.out b0)
        replace GLE : Hid (g0 ≤ (W2.alloc (.cells #[.int .i64 t.op, .string t.nm, .int .i64 t.n, .slice t.a t.ks.length t.c] 24)).heap.size) := Nat.le_trans GLE.out b0.size
        go_simp
        (try rw [hg4])
        refine hK.out _ _ (HS.out _ HWc.out) (fun hHeld => ?_)
        clear hK
        clear b0 hg4
        generalize W2.alloc (.cells #[.int .i64 t.op, .string t.nm, .int .i64 t.n, .slice t.a t.ks.length t.c] 24) = W4 at *
        refine wpAnyH_ready (rs := [5]) (by kernel_rfl) (by simp) ?_
        refine AllReadyH.cons rfl (fun K hK => ?_) AllReadyH.nil
        obtain ⟨v5, W5, hrun, hr5, hgr⟩ := run_terms (L := [t]) R2.out ⟨_, O4.out⟩ (by simp; omega) GLE.out
        have R5 := mkHid hr5
        have b0 := below_grown (B := W.heap.size) hgr (fun k hk => by have := (own_lt R2.out hk).1; have := G0.out; omega) HWc.out.size
        have b1 := below_grown (B := w.heap.size) hgr (fun k hk => by have := (own_lt R2.out hk).1; have := G0.out; have := HB0.out.size; omega) HBc.out.size
        replace HWc := mkHid (HWc.out.trans b0)
        replace HBc := mkHid (HBc.out.trans b1)
        clear hr5 hgr b0 b1
        refine step_run (by rfl) _ _ (by rfl) (by rfl) (by rfl) (by rfl) hrun ?_
        refine hK.out _ _ (HS.out _ HWc.out) (fun hHeld => ?_)
        clear hK
        clear hrun R2 O4
        refine wpAnyH_take (i := 6) (v := ?_) rfl (by kernel_rfl) (by kernel_rfl) (by kernel_rfl) (fun _ _ _ h => h) (Or.inl ⟨by kernel_rfl, ?_⟩) (by assumption) ?_
        rotate_left
        · (intro w hSw; clear hSw; go_simp; try with_reducible rfl)
        simp only [Act.put, List.getElem_toArray, List.getElem_cons_succ, List.getElem_cons_zero, List.setIfInBounds_toArray, List.set_cons_zero, List.set_cons_succ]
        refine wpAnyH_done (by kernel_rfl) ?_ _
        go_wp2
        go_ret
        exact ⟨_, L ++ [t], rfl, HBc.out, ⟨_, R5.out⟩, fun x hx => by
          rcases List.mem_append.1 hx with hx | hx
          · exact ⟨(HL.out x hx).1.later HBc.out, (HL.out x hx).2⟩
          · rw [List.mem_singleton.1 hx]; exact ⟨HT.out.later HBc.out, HD.out⟩, by rw [HE.out, List.map_append]; rfl⟩
      refine AllReadyH.cons rfl (fun K hK => ?_) AllReadyH.nil
      have b0 := bel_alloc W0 (.cells #[.int .i64 t.op, .string t.nm, .int .i64 t.n, .slice t.a t.ks.length t.c] 24)
      have O4 := mkHid (one_term W0 t)
      obtain ⟨g4, hg4⟩ : ∃ g4, W0.heap.size = g4 := ⟨_, rfl⟩
      rw [hg4] at O4
      have NE : Hid (g0 ≠ g4) := fun e => by have h1 : g0 < _ := (own_lt R0.out rfl).2; omega
      replace R0 := mkHid (own_lat' R0.out b0)
      replace HWc := mkHid (bon HWc.out b0)
      replace HBc := mkHid (bon HBc.out b0)
      replace GLE : Hid (g0 ≤ (W0.alloc (.cells #[.int .i64 t.op, .string t.nm, .int .i64 t.n, .slice t.a t.ks.length t.c] 24)).heap.size) := Nat.le_trans GLE.out b0.size
      go_simp
      (try rw [hg4])
      refine hK.out _ _ (HS.out _ HWc.out) (fun hHeld => ?_)
      clear hK
      clear b0 hg4
      generalize W0.alloc (.cells #[.int .i64 t.op, .string t.nm, .int .i64 t.n, .slice t.a t.ks.length t.c] 24) = W4 at *
      refine wpAnyH_ready (rs := [2]) (by kernel_rfl) (by simp) ?_
      refine AllReadyH.cons rfl (fun K hK => ?_) AllReadyH.nil
      obtain ⟨v2, W2, hrun, hr2, hgr⟩ := run_terms R0.out (HR.out.later HBc.out) (by simp; omega) (Nat.le_of_lt (own_lt R0.out rfl).2)
      rw [List.nil_append] at hr2
      have R2 := mkHid hr2
      replace O4 := mkHid (own_grown' O4.out hgr (fun k hk e => by simp only [Value.ownBlock, Option.some.injEq] at hk e; exact NE.out (by omega)))
      clear NE
      have b0 := below_grown (B := W.heap.size) hgr (fun k hk => by simp only [Value.ownBlock, Option.some.injEq] at hk; have := G0.out; omega) HWc.out.size
      have b1 := below_grown (B := w.heap.size) hgr (fun k hk => by simp only [Value.ownBlock, Option.some.injEq] at hk; have := G0.out; have := HB0.out.size; omega) HBc.out.size
      replace HWc := mkHid (HWc.out.trans b0)
      replace HBc := mkHid (HBc.out.trans b1)
      replace GLE : Hid (g0 ≤ W2.heap.size) := Nat.le_trans GLE.out hgr.size
      clear hr2 hgr b0 b1
      refine step_run (by rfl) _ _ (by rfl) (by rfl) (by rfl) (by rfl) hrun ?_
      refine hK.out _ _ (HS.out _ HWc.out) (fun hHeld => ?_)
      clear hK
      clear hrun R0
      refine wpAnyH_ready (rs := [5]) (by kernel_rfl) (by simp) ?_
      refine AllReadyH.cons rfl (fun K hK => ?_) AllReadyH.nil
      obtain ⟨v5, W5, hrun, hr5, hgr⟩ := run_terms (L := [t]) R2.out ⟨_, O4.out⟩ (by simp; omega) GLE.out
      have R5 := mkHid hr5
      have b0 := below_grown (B := W.heap.size) hgr (fun k hk => by have := (own_lt R2.out hk).1; have := G0.out; omega) HWc.out.size
      have b1 := below_grown (B := w.heap.size) hgr (fun k hk => by have := (own_lt R2.out hk).1; have := G0.out; have := HB0.out.size; omega) HBc.out.size
      replace HWc := mkHid (HWc.out.trans b0)
      replace HBc := mkHid (HBc.out.trans b1)
      clear hr5 hgr b0 b1
      refine step_run (by rfl) _ _ (by rfl) (by rfl) (by rfl) (by rfl) hrun ?_
      refine hK.out _ _ (HS.out _ HWc.out) (fun hHeld => ?_)
      clear hK
      clear hrun R2 O4
      refine wpAnyH_take (i := 6) (v := ?_) rfl (by kernel_rfl) (by kernel_rfl) (by kernel_rfl) (fun _ _ _ h => h) (Or.inl ⟨by kernel_rfl, ?_⟩) (by assumption) ?_
      rotate_left
      · (intro w hSw; clear hSw; go_simp; try with_reducible rfl)
      simp only [Act.put, List.getElem_toArray, List.getElem_cons_succ, List.getElem_cons_zero, List.setIfInBounds_toArray, List.set_cons_zero, List.set_cons_succ]
      refine wpAnyH_done (by kernel_rfl) ?_ _
      go_wp2
      go_ret
      exact ⟨_, L ++ [t], rfl, HBc.out, ⟨_, R5.out⟩, fun x hx => by
        rcases List.mem_append.1 hx with hx | hx
        · exact ⟨(HL.out x hx).1.later HBc.out, (HL.out x hx).2⟩
        · rw [List.mem_singleton.1 hx]; exact ⟨HT.out.later HBc.out, HD.out⟩, by rw [HE.out, List.map_append]; rfl⟩
    refine AllReadyH.cons rfl (fun K hK => ?_) AllReadyH.nil
    have b0 := bel_alloc V (.cells #[.int .i64 t.op, .string t.nm, .int .i64 t.n, .slice t.a t.ks.length t.c] 24)
    have O4 := mkHid (one_term V t)
    obtain ⟨g4, hg4⟩ : ∃ g4, V.heap.size = g4 := ⟨_, rfl⟩
    rw [hg4] at O4
    replace HWc := mkHid (bon HWc.out b0)
    replace HBc := mkHid (bon HBc.out b0)
    go_simp
    (try rw [hg4])
    refine hK.out _ _ (HS.out _ HWc.out) (fun hHeld => ?_)
    clear hK
    clear b0 hg4
    generalize V.alloc (.cells #[.int .i64 t.op, .string t.nm, .int .i64 t.n, .slice t.a t.ks.length t.c] 24) = W4 at *
    refine wpAnyH_ready (rs := [0]) (by kernel_rfl) (by simp) ?_
    refine AllReadyH.cons rfl (fun K hK => ?_) AllReadyH.nil
    have b0 := bel_alloc W4 (.cells #[] 24)
    have R0 := mkHid (nil_terms W4)
    obtain ⟨g0, hg0⟩ : ∃ g0, W4.heap.size = g0 := ⟨_, rfl⟩
    rw [hg0] at R0
    have NE : Hid (g0 ≠ g4) := fun e => by have h1 : g4 < _ := (own_lt O4.out rfl).2; omega
    replace O4 := mkHid (own_lat' O4.out b0)
    have G0 := mkHid (show W.heap.size ≤ g0 by rw [← hg0]; exact HWc.out.size)
    replace HWc := mkHid (bon HWc.out b0)
    replace HBc := mkHid (bon HBc.out b0)
    have GLE : Hid (g0 ≤ (W4.alloc (.cells #[] 24)).heap.size) := by show _ ≤ _; rw [size_alloc]; omega
    go_simp
    (try rw [hg0])
    refine hK.out _ _ (HS.out _ HWc.out) (fun hHeld => ?_)
    clear hK
    clear b0 hg0
    generalize W4.alloc (.cells #[] 24) = W0 at *
    refine wpAnyH_ready (rs := [2]) (by kernel_rfl) (by simp) ?_
    refine AllReadyH.cons rfl (fun K hK => ?_) AllReadyH.nil
    obtain ⟨v2, W2, hrun, hr2, hgr⟩ := run_terms R0.out (HR.out.later HBc.out) (by simp; omega) (Nat.le_of_lt (own_lt R0.out rfl).2)
    rw [List.nil_append] at hr2
    have R2 := mkHid hr2
    replace O4 := mkHid (own_grown' O4.out hgr (fun k hk e => by simp only [Value.ownBlock, Option.some.injEq] at hk e; exact NE.out (by omega)))
    clear NE
    have b0 := below_grown (B := W.heap.size) hgr (fun k hk => by simp only [Value.ownBlock, Option.some.injEq] at hk; have := G0.out; omega) HWc.out.size
    have b1 := below_grown (B := w.heap.size) hgr (fun k hk => by simp only [Value.ownBlock, Option.some.injEq] at hk; have := G0.out; have := HB0.out.size; omega) HBc.out.size
    replace HWc := mkHid (HWc.out.trans b0)
    replace HBc := mkHid (HBc.out.trans b1)
    replace GLE : Hid (g0 ≤ W2.heap.size) := Nat.le_trans GLE.out hgr.size
    clear hr2 hgr b0 b1
    refine step_run (by rfl) _ _ (by rfl) (by rfl) (by rfl) (by rfl) hrun ?_
    refine hK.out _ _ (HS.out _ HWc.out) (fun hHeld => ?_)
    clear hK
    clear hrun R0
    refine wpAnyH_ready (rs := [5]) (by kernel_rfl) (by simp) ?_
    refine AllReadyH.cons rfl (fun K hK => ?_) AllReadyH.nil
    obtain ⟨v5, W5, hrun, hr5, hgr⟩ := run_terms (L := [t]) R2.out ⟨_, O4.out⟩ (by simp; omega) GLE.out
    have R5 := mkHid hr5
    have b0 := below_grown (B := W.heap.size) hgr (fun k hk => by have := (own_lt R2.out hk).1; have := G0.out; omega) HWc.out.size
    have b1 := below_grown (B := w.heap.size) hgr (fun k hk => by have := (own_lt R2.out hk).1; have := G0.out; have := HB0.out.size; omega) HBc.out.size
    replace HWc := mkHid (HWc.out.trans b0)
    replace HBc := mkHid (HBc.out.trans b1)
    clear hr5 hgr b0 b1
    refine step_run (by rfl) _ _ (by rfl) (by rfl) (by rfl) (by rfl) hrun ?_
    refine hK.out _ _ (HS.out _ HWc.out) (fun hHeld => ?_)
    clear hK
    clear hrun R2 O4
    refine wpAnyH_take (i := 6) (v := ?_) rfl (by kernel_rfl) (by kernel_rfl) (by kernel_rfl) (fun _ _ _ h => h) (Or.inl ⟨by kernel_rfl, ?_⟩) (by assumption) ?_
    rotate_left
    · (intro w hSw; clear hSw; go_simp; try with_reducible rfl)
    simp only [Act.put, List.getElem_toArray, List.getElem_cons_succ, List.getElem_cons_zero, List.setIfInBounds_toArray, List.set_cons_zero, List.set_cons_succ]
    refine wpAnyH_done (by kernel_rfl) ?_ _
    go_wp2
    go_ret
    exact ⟨_, L ++ [t], rfl, HBc.out, ⟨_, R5.out⟩, fun x hx => by
      rcases List.mem_append.1 hx with hx | hx
      · exact ⟨(HL.out x hx).1.later HBc.out, (HL.out x hx).2⟩
      · rw [List.mem_singleton.1 hx]; exact ⟨HT.out.later HBc.out, HD.out⟩, by rw [HE.out, List.map_append]; rfl⟩
set_option maxRecDepth 100000 in
set_option maxHeartbeats 8000000 in
/-- the document's Atoms -/
theorem ratoms_any : ∀ t : Tm, ∀ (w : World) (v : Value) (L : List Tm), ROwn w v L → (∀ x ∈ L, TIn w w.heap.size x ∧ x.deep ≤ 100) → L.length + t.size ≤ 4000 → TIn w w.heap.size t → t.deep ≤ 100 →
    Calls Tryd.prog 67 #[v, t.val] w (RAt t L w) := by
  intro t
  induction t using Tm.ind with
  | h t ih =>
  intro w v L hr hL hl ht hd
  have hse := Tm.size_eq t
  by_cases hj : jnB t.op = true
  · have hkl : t.ks.length ≤ 4000 := by
      have := len_sizes t.ks
      omega
    have B0 := bel_alloc w (boxT t)
    have F1 := box_four w t
    have hW : w.alloc (.cells #[.int .i64 t.op, .string t.nm, .int .i64 t.n, .slice t.a t.ks.length t.c] 24) = w.alloc (boxT t) := rfl
    have CJ := mkHid (rjoins_any t.op (w.alloc (boxT t)))
    rw [hj] at CJ
    have HE : Hid (ats t (L.map Tm.er) = atss t.ks (L.map Tm.er)) := by
      show _ = _
      rw [ats_eq, if_pos hj]
    have HR := mkHid hr
    have HL := mkHid hL
    have HIN := mkHid ht
    have IH : Hid (∀ (k : Nat) (hk : k < t.ks.length) (w : World) (v : Value) (A : List Tm), ROwn w v A → (∀ x ∈ A, TIn w w.heap.size x ∧ x.deep ≤ 100) → A.map Tm.er = atss (t.ks.take k) (L.map Tm.er) → TIn w w.heap.size t.ks[k] → Calls Tryd.prog 67 #[v, t.ks[k].val] w (RAt t.ks[k] A w)) := fun k hk w v A h1 h2 h3 h4 => by
      have hal : A.length ≤ L.length + Tm.sizes (t.ks.take k) := by
        have e := congrArg List.length h3
        rw [List.length_map] at e
        rw [e]
        have := atss_le (t.ks.take k) (L.map Tm.er) (fun k _ r => ats_le k r)
        rw [List.length_map] at this
        exact this
      have := sizes_take hk
      have := kid_deep (List.getElem_mem hk)
      exact ih _ (List.getElem_mem hk) w v A h1 h2 (by omega) h4 (by omega)
    obtain ⟨n, hn⟩ : ∃ n, t.ks.length = n := ⟨_, rfl⟩
    have HN := mkHid hn
    rw [Four, hn] at F1
    unfold Tm.val
    rw [hn] at hkl hW ⊢
    clear hr hL hl ht hd hse hj ih hn
    generalize w.alloc (boxT t) = W at *
    have HB0 := mkHid B0
    obtain ⟨f0, f1, f2, f3⟩ := F1
    simp only [Nat.zero_add] at f1 f2 f3
    have hn9 : n ≤ 9223372036854775807 := by omega
    go_enter Tryd.func67, Tryd.ntmps67
    go_wp2_with ((with_reducible refine CJ.out.mono ?_)); rintro e w1 ⟨rfl, hb1⟩; have HK3 := mkHid (cell_later hb1 f3); have HB1 := mkHid (bon HB0.out hb1)
    clear f0 f1 f2 f3 hW CJ B0 HB0 hb1
    go_wp2
    go_loopw [0, 5] (fun p i w' => ∃ (k : Nat) (x : Int) (A : List Tm), i = .int .i64 x ∧ x = k ∧ k ≤ n ∧ Hid (ROwn w' p A) ∧ Hid (∀ x ∈ A, TIn w' w'.heap.size x ∧ x.deep ≤ 100) ∧ Hid (A.map Tm.er = atss (t.ks.take k) (L.map Tm.er)) ∧ Hid (Below w.heap.size w w') ∧ Hid (Below w1.heap.size w1 w')) (fun _ i _ => (n - intOf i).toNat)
    case atStart => exact ⟨0, 0, L, rfl, rfl, Nat.zero_le _, mkHid (HR.out.later HB1.out), mkHid (fun x hx => ⟨(HL.out x hx).1.later HB1.out, (HL.out x hx).2⟩), mkHid (by simp [atss]), HB1, mkHid (Below.refl _ _)⟩
    case round =>
      clear HR HL HB1
      obtain ⟨k, x, A, rfl, hxk, hk, HR, HL, HA, BW, BX⟩ := hrel
      obtain rfl : x = (k : Int) := hxk
      have y3 := cell_later BX.out HK3.out
      by_cases hlt : k < n
      · have hk' : k < t.ks.length := by rw [HN.out]; exact hlt
        obtain ⟨kin, b, o, ha, hbl, kf⟩ := HIN.out.kid k hk'
        have kf' := kf.keep BW.out hbl
        have HC := mkHid (IH.out k hk' wr _ A HR.out HL.out HA.out (kin.later BW.out))
        have HT : Hid (atss (t.ks.take (k + 1)) (L.map Tm.er) = ats t.ks[k] (A.map Tm.er)) := by
          show _ = _
          rw [atss_take hk', HA.out]
        rw [ha] at y3 ⊢
        clear ha kin kf
        generalize t.ks[k] = q at *
        clear hk'
        obtain ⟨g0, g1, g2, g3⟩ := kf'
        unfold Tm.val at HC
        have hk2 : (k : Int) < (n : Int) := by omega
        clear IH
        go_wp2_with (go_at_call 67; ((with_reducible refine HC.out.mono ?_)); rintro e w4 ⟨v4, A4, rfl, hb4, h41, h42, h43⟩)
        go_roundw
        case rel => exact ⟨k + 1, _, A4, rfl, by omega, by omega, mkHid h41, mkHid h42, mkHid (h43.trans HT.out.symm), mkHid (bon BW.out hb4), mkHid (bon BX.out hb4)⟩
        case measure => simp [intOf]; omega
      · obtain rfl : k = n := by omega
        have htk : t.ks.take k = t.ks := List.take_of_length_le (by rw [HN.out]; exact Nat.le_refl _)
        rw [htk] at HA
        clear htk IH
        go_wp2
        go_ret
        exact ⟨_, A, rfl, BW.out, HR.out, HL.out, HA.out.trans HE.out.symm⟩
  · exact ratoms_leaf t (by simpa using hj) w v L hr hL (by omega) ht hd
end Go.Proofs.YtaiachmolkjedaaDoor
