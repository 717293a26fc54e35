/-
  What the laws' 'few' makes: at most fifty clauses of at most twenty literals, an assignment of at most fifty.
-/
import Derived.Test.YtilhamnibdjfaaaPrJ
namespace Go.Proofs.Ytilhamnibdjfaaa
open Go.RowKit

/-- a builtin append whose run is known, at a step of a region that draws its order -/
theorem step_run {ops : Array Oper} {o : Oper} {a : Act} {w w' : World} {v r v' : Value} {K : Act → World → Prop} {Q : Exit → Act → World → Prop} {E : Prop} {ts : TypeId} (hgd : o.guard = none) (s x : Operand) (hty : o.type = ts)
    (ho : o.op = .call { callee := .builtin .append, args := #[s, x], argTypes := #[ts, ts] }) (hs : a.eval s = v) (hx : a.eval x = r) (hrun : (Builtin.append_ #[ts, ts] ts #[v, r]).run Try.prog w = .ok v' w')
    (h : K (a.put o.dst v') w') : if Region.wanted o (yielded ops a.tmps) = true then Oper.wp Try.prog o a w K Q else E := by
  have hw : Region.wanted o (yielded ops a.tmps) = true := by simp [Region.wanted, hgd]
  rw [if_pos hw]
  unfold Oper.wp execOp
  simp only [ho, hty, resolve, invoke, builtin, Sem.run_bind, Sem.run_pure, Result.andThen_ok, List.map_toArray, List.map_cons, List.map_nil, hs, hx, hrun]
  exact h
/-- one row more, by append -/
theorem run_row {w : World} {base B' : Nat} {v u : Value} {C : List (List Int)} {us : List Value} {R : List Int} {ad : Addr} (h : CR w base v C us) (hu : w.ownsRow B' 3 1 u R.length (nums .i64 R))
    (hc : ∀ j x, [u][j]? = some x → w.cell? (ad.add j) = some x) (hl : C.length ≤ 1000) (hb : base ≤ w.heap.size) :
    ∃ v' w', (Builtin.append_ #[22, 22] 22 #[v, .slice (some ad) 1 1]).run Try.prog w = .ok v' w' ∧ CR w' base v' (C ++ [R]) (us ++ [u]) ∧ Below base w w' := by
  obtain ⟨i0, hi0, hz0, hz1, hz2⟩ := sl_parts
  obtain ⟨a, c, rfl, -⟩ := own_val hu
  obtain ⟨v', w', h1, h2, h3, -, -⟩ := run_append_own_at (P := Try.prog) w base 22 22 35 i0 _ 1 24 Try.underlying22 hi0 hz0 hz1 hz2 rfl (by omega) v C.length us h.row ad 1 1 [.slice a R.length c] rfl hc (fun u hu => by rw [List.mem_singleton.1 hu]; rfl) (by unfold maxLen; omega) (by omega) hb
  exact ⟨v', w', h1, h.snoc hu h2 h3, below_grown h3 (fun k hk => (own_lt h.row hk).1) hb⟩
def fewL (L : List (List Int)) : List (List Int) := (L.take 50).map (fun c => c.take 20)
def fewN (L : List (List Int)) (k : Nat) : List (List Int) := (L.take k).map (fun c => c.take 20)
theorem fewN_succ {L : List (List Int)} {k : Nat} (h : k < L.length) : fewN L (k + 1) = fewN L k ++ [(L.getD k []).take 20] := by
  unfold fewN
  rw [List.take_succ_eq_append_getElem h, List.getD_eq_getElem?_getD, List.getElem?_eq_getElem h]
  simp only [List.map_append, List.map_cons, List.map_nil, Option.getD_some]
theorem fewN_end {L : List (List Int)} {k : Nat} (h : k = 50 ∨ (k = L.length ∧ k ≤ 50)) : fewN L k = fewL L := by
  rcases h with rfl | ⟨rfl, h⟩
  · rfl
  · unfold fewN fewL
    rw [List.take_of_length_le (Nat.le_refl _), List.take_of_length_le h]
/-- what 'few' answers -/
def FewP (L : List (List Int)) (A : List Int) (w : World) (e : Ending) (w' : World) : Prop :=
  ∃ v us g c, e = .returned (.tuple #[v, .slice (some ⟨g, 0, none⟩) (A.take 50).length c]) ∧ CR w' w.heap.size v (fewL L) us ∧ w.heap.size ≤ g ∧ AC w' g (A.take 50).length c (A.take 50) ∧ Below w.heap.size w w'
set_option maxRecDepth 100000 in
set_option maxHeartbeats 8000000 in
theorem few_any (L : List (List Int)) (A : List Int) (v u : Value) (w : World) (hv : RR w v L) (hu : RK .i8 w u A) (hA : A.length ≤ maxLen) (hf : ∀ c ∈ L, c.length ≤ maxLen) :
    Calls Try.prog 13 #[v, u] w (FewP L A w) := by
  have hmx : maxLen = 9223372036854775807 := by decide
  rw [hmx] at hA
  have HF : Hid (∀ k, k < L.length → (L.getD k []).length ≤ 9223372036854775807) := fun k hk => by
    have e : L.getD k [] = L[k] := by rw [List.getD_eq_getElem?_getD, List.getElem?_eq_getElem hk]; rfl
    rw [e, ← hmx]; exact hf _ (List.getElem_mem _)
  clear hmx
  obtain ⟨a, c, rfl, hc, -, hr⟩ := hv
  have HR := mkHid hr
  have HU := mkHid hu
  obtain ⟨a0, c0, rfl, hc0, h00, -⟩ := hu
  have HS : Hid (∀ k, k < L.length → fewN L (k + 1) = fewN L k ++ [(L.getD k []).take 20]) := fun k h => fewN_succ h
  have HE : Hid (∀ k, (k = 50 ∨ (k = L.length ∧ k ≤ 50)) → fewN L k = fewL L) := fun k h => fewN_end h
  have H0 : Hid (fewN L 0 = []) := rfl
  have HLN : Hid (∀ k, (fewN L k).length ≤ k) := fun k => by unfold fewN; simp; omega
  unfold FewP
  generalize hmm : (A.take 50).length = mm
  have HMM := mkHid hmm
  clear hmm
  generalize L.length = n at *
  obtain ⟨f, hfd⟩ : ∃ f : Nat → List Int, f = fun j => L.getD j [] := ⟨_, rfl⟩
  have ef : ∀ j, L.getD j [] = f j := fun j => by rw [hfd]
  simp only [ef] at *
  clear ef hfd hr hf
  generalize fewL L = res at *
  generalize fewN L = fn at *
  go_enter Try.func13, Try.ntmps13
  go_wp2
  go_loopw [6, 7] (fun q i w' => ∃ (k : Nat) (x : Int) (us : List Value), k ≤ n ∧ k ≤ 50 ∧ i = .int .i64 x ∧ x = k ∧ Hid (CR w' w.heap.size q (fn k) us) ∧ Hid (Below w.heap.size w w')) (fun _ i _ => (n - intOf i).toNat)
  case atStart => exact ⟨0, 0, [], Nat.zero_le _, by omega, rfl, rfl, mkHid (by rw [H0.out]; exact CR.nil _ _), mkHid (Below.refl _ _)⟩
  case round =>
    obtain ⟨k, x, us, hk, hk5, rfl, hxk, HC, HB⟩ := hrel
    obtain rfl : x = (k : Int) := hxk
    by_cases hlt : k < n ∧ k < 50
    · obtain ⟨b, of, r, rfl, e1, hrk⟩ := HR.out k hlt.1
      have hlen := HF.out k hlt.1
      have g1 := cell_later HB.out e1
      have HK := mkHid (hrk.later HB.out)
      have hlt' : (k : Int) < (n : Int) := by omega
      have hlt5 : (k : Int) < 50 := by omega
      have HS1 := mkHid (HS.out k hlt.1)
      have hLk := HLN.out k
      have E1 := mkHid e1
      clear e1 HR HF HS HE H0 HLN HU h00 hc0
      generalize f k = R at *
      obtain ⟨ar, cr, rfl, hcr, hno, -⟩ := hrk
      have hw2 := HB.out.size
      obtain ⟨i0, hi0, hz0, hz1, hz2⟩ := int_parts
      cases ar with
      | none =>
        obtain ⟨rfl, rfl⟩ := HK.out.none_nil
        have HT : Hid (([] : List Int).take 0 = [].take 20) := rfl
        have e0 : ([] : List Int).length = 0 := rfl
        rw [e0] at g1 E1 HK
        clear e0 hno
        go_wp2_with fail
        (try dsimp only [List.append])
        refine wp_region_held_drew (S := fun w' => w'.cell? ⟨b, of + k, none⟩ = some (.slice none 0 0)) (by kernel_rfl) g1 (fun hHeld => ?_)
        have hb0 : Below wr.heap.size wr wr.drew := bdrew (Below.refl _ _)
        have HKV := mkHid (HK.out.later hb0)
        have HCV := mkHid (HC.out.later hb0)
        have HBV := mkHid (bon HB.out hb0)
        have hwV : w.heap.size ≤ wr.drew.heap.size := HBV.out.size
        clear hb0
        generalize wr.drew = V at *
        refine wpAnyH_take (i := 0) (v := ?_) rfl (by kernel_rfl) (by kernel_rfl) (by kernel_rfl) (fun _ _ _ h => h) (Or.inl ⟨by kernel_rfl, ?_⟩) (by assumption) ?_
        rotate_left
        · (intro w hSw; (try dsimp only at hSw); go_simp; try with_reducible rfl)
        simp only [Act.put, List.getElem_toArray, List.getElem_cons_zero, List.setIfInBounds_toArray, List.set_cons_zero, List.set_cons_succ]
        refine wpAnyH_take (i := 2) (v := ?_) rfl (by kernel_rfl) (by kernel_rfl) (by kernel_rfl) (fun _ _ _ h => h) (Or.inl ⟨by kernel_rfl, ?_⟩) (by assumption) ?_
        rotate_left
        · (intro w hSw; (try dsimp only at hSw); go_simp; try with_reducible rfl)
        simp only [Act.put, List.getElem_toArray, List.getElem_cons_succ, List.getElem_cons_zero, List.setIfInBounds_toArray, List.set_cons_zero, List.set_cons_succ]
        refine wpAnyH_take (i := 3) (v := ?_) rfl (by kernel_rfl) (by kernel_rfl) (by kernel_rfl) (fun _ _ _ h => h) (Or.inl ⟨by kernel_rfl, ?_⟩) (by assumption) ?_
        rotate_left
        · (intro w hSw; (try dsimp only at hSw); go_simp; try with_reducible rfl)
        simp only [Act.put, List.getElem_toArray, List.getElem_cons_succ, List.getElem_cons_zero, List.setIfInBounds_toArray, List.set_cons_zero, List.set_cons_succ]
        refine wpAnyH_take (i := 4) (v := ?_) rfl (by kernel_rfl) (by kernel_rfl) (by kernel_rfl) (fun _ _ _ h => h) (Or.inl ⟨by kernel_rfl, ?_⟩) (by assumption) ?_
        rotate_left
        · (intro w hSw; (try dsimp only at hSw); go_simp; try with_reducible rfl)
        simp only [Act.put, List.getElem_toArray, List.getElem_cons_succ, List.getElem_cons_zero, List.setIfInBounds_toArray, List.set_cons_zero, List.set_cons_succ]
        refine wpAnyH_take (i := 5) (v := ?_) rfl (by kernel_rfl) (by kernel_rfl) (by kernel_rfl) (fun _ _ _ h => h) (Or.inl ⟨by kernel_rfl, ?_⟩) (by assumption) ?_
        rotate_left
        · (intro w hSw; (try dsimp only at hSw); go_simp; try with_reducible rfl)
        simp only [Act.put, List.getElem_toArray, List.getElem_cons_succ, List.getElem_cons_zero, List.setIfInBounds_toArray, List.set_cons_zero, List.set_cons_succ]
        refine wpAnyH_take (i := 6) (v := ?_) rfl (by kernel_rfl) (by kernel_rfl) (by kernel_rfl) (fun _ _ _ h => h) (Or.inl ⟨by kernel_rfl, ?_⟩) (by assumption) ?_
        rotate_left
        · (intro w hSw; (try dsimp only at hSw); go_simp; try with_reducible rfl)
        simp only [Act.put, List.getElem_toArray, List.getElem_cons_succ, List.getElem_cons_zero, List.setIfInBounds_toArray, List.set_cons_zero, List.set_cons_succ]
        refine wpAnyH_take (i := 7) (v := ?_) rfl (by kernel_rfl) (by kernel_rfl) (by kernel_rfl) (fun _ _ _ h => h) (Or.inl ⟨by kernel_rfl, ?_⟩) (by assumption) ?_
        rotate_left
        · (intro w hSw; (try dsimp only at hSw); go_simp; try with_reducible rfl)
        simp only [Act.put, List.getElem_toArray, List.getElem_cons_succ, List.getElem_cons_zero, List.setIfInBounds_toArray, List.set_cons_zero, List.set_cons_succ]
        refine wpAnyH_take (i := 8) (v := ?_) rfl (by kernel_rfl) (by kernel_rfl) (by kernel_rfl) (fun _ _ _ h => h) (Or.inl ⟨by kernel_rfl, ?_⟩) (by assumption) ?_
        rotate_left
        · (intro w hSw; (try dsimp only at hSw); go_simp; try with_reducible rfl)
        simp only [Act.put, List.getElem_toArray, List.getElem_cons_succ, List.getElem_cons_zero, List.setIfInBounds_toArray, List.set_cons_zero, List.set_cons_succ]
        refine wpAnyH_take (i := 9) (v := ?_) rfl (by kernel_rfl) (by kernel_rfl) (by kernel_rfl) (fun _ _ _ h => h) (Or.inl ⟨by kernel_rfl, ?_⟩) (by assumption) ?_
        rotate_left
        · (intro w hSw; (try dsimp only at hSw); go_simp; try with_reducible rfl)
        simp only [Act.put, List.getElem_toArray, List.getElem_cons_succ, List.getElem_cons_zero, List.setIfInBounds_toArray, List.set_cons_zero, List.set_cons_succ]
        refine wpAnyH_take (i := 10) (v := ?_) rfl (by kernel_rfl) (by kernel_rfl) (by kernel_rfl) (fun _ _ _ h => h) (Or.inl ⟨by kernel_rfl, ?_⟩) (by assumption) ?_
        rotate_left
        · (intro w hSw; (try dsimp only at hSw); go_simp; try with_reducible rfl)
        simp only [Act.put, List.getElem_toArray, List.getElem_cons_succ, List.getElem_cons_zero, List.setIfInBounds_toArray, List.set_cons_zero, List.set_cons_succ]
        refine wpAnyH_take (i := 11) (v := ?_) rfl (by kernel_rfl) (by kernel_rfl) (by kernel_rfl) (fun _ _ _ h => h) (Or.inl ⟨by kernel_rfl, ?_⟩) (by assumption) ?_
        rotate_left
        · (intro w hSw; (try dsimp only at hSw); go_simp; try with_reducible rfl)
        simp only [Act.put, List.getElem_toArray, List.getElem_cons_succ, List.getElem_cons_zero, List.setIfInBounds_toArray, List.set_cons_zero, List.set_cons_succ]
        refine wpAnyH_take (i := 12) (v := ?_) rfl (by kernel_rfl) (by kernel_rfl) (by kernel_rfl) (fun _ _ _ h => h) (Or.inl ⟨by kernel_rfl, ?_⟩) (by assumption) ?_
        rotate_left
        · (intro w hSw; (try dsimp only at hSw); go_simp; try with_reducible rfl)
        simp only [Act.put, List.getElem_toArray, List.getElem_cons_succ, List.getElem_cons_zero, List.setIfInBounds_toArray, List.set_cons_zero, List.set_cons_succ]
        refine wpAnyH_ready (rs := [1]) (by kernel_rfl) (by simp) ?_
        refine AllReadyH.cons rfl (fun K hK => ?_) AllReadyH.nil
        have b1 := bel_alloc V (.cells #[] 3)
        have O1 : (V.alloc (.cells #[] 3)).ownsRow V.heap.size 3 1 (.slice (some ⟨V.heap.size, 0, none⟩) 0 0) 0 [] := World.ownsRow_lit _ #[] 0 (Nat.le_refl _) (by decide) rfl
        obtain ⟨v8, w8, hrun, ho8, hg8, -⟩ := run_nums .i64 Try.underlying35 hi0 hz0 hz1 hz2 (n := 0) (m := 0) (c2 := 0) (R := []) O1 (HKV.out.later b1) (Nat.zero_le _) (by omega) (by omega) b1.size (fun _ => rfl)
        have hb8 : Below V.heap.size V w8 := b1.trans (below_grown hg8 (fun k hk => by simp only [Value.ownBlock, Option.some.injEq] at hk; omega) b1.size)
        have c1 := cell_later b1 hHeld
        have c8 := cell_later hb8 hHeld
        rw [List.nil_append, Nat.zero_add] at ho8
        have HO8 := mkHid ho8
        have HB8 := mkHid hb8
        clear hg8 ho8 O1 hb8 b1
        go_simp
        refine hK.out _ _ c1 (fun hHeld => ?_)
        clear hK
        refine wpAnyH_ready (rs := [13]) (by kernel_rfl) (by simp) ?_
        refine AllReadyH.cons rfl (fun K hK => ?_) AllReadyH.nil
        refine step_run (by rfl) _ _ (by rfl) (by rfl) (by rfl) (by rfl) hrun ?_
        refine hK.out _ _ c8 (fun hHeld => ?_)
        clear hK hrun c1
        refine wpAnyH_ready (rs := [14]) (by kernel_rfl) (by simp) ?_
        refine AllReadyH.cons rfl (fun K hK => ?_) AllReadyH.nil
        obtain ⟨a8, cc8, rfl, -⟩ := own_val HO8.out
        have b9 := bel_alloc w8 (.cells #[.slice a8 0 cc8] 35)
        have N9 := one_cell w8 (.slice a8 0 cc8) 35
        have hO9 : (w8.alloc (.cells #[.slice a8 0 cc8] 35)).ownsRow V.heap.size 3 1 (.slice a8 0 cc8) (([] : List Int).take 20).length (nums .i64 (([] : List Int).take 20)) := by
          have := own_keep HO8.out b9
          rwa [HT.out] at this
        have c9 := cell_later b9 c8
        obtain ⟨v10, w10, hrun, hC10, hb10⟩ := run_row (HCV.out.later (bon HB8.out b9)) hO9 N9 (by omega) (Nat.le_trans hwV (bon HB8.out b9).size)
        have HC10 := mkHid hC10
        have HB10 : Hid (Below w.heap.size w w10) := (bon HBV.out (bon HB8.out b9)).trans hb10
        have c10 : w10.cell? ⟨b, of + k, none⟩ = some (.slice none 0 0) := cell_later HB10.out E1.out
        clear hC10 hb10 N9 hO9 b9 c8
        go_simp
        refine hK.out _ _ c9 (fun hHeld => ?_)
        clear hK
        refine wpAnyH_ready (rs := [15]) (by kernel_rfl) (by simp) ?_
        refine AllReadyH.cons rfl (fun K hK => ?_) AllReadyH.nil
        refine step_run (by rfl) _ _ (by rfl) (by rfl) (by rfl) (by rfl) hrun ?_
        refine hK.out _ _ c10 (fun hHeld => ?_)
        clear hK hrun c9
        refine wpAnyH_take (i := 16) (v := ?_) rfl (by kernel_rfl) (by kernel_rfl) (by kernel_rfl) (fun _ _ _ h => h) (Or.inl ⟨by kernel_rfl, ?_⟩) (by assumption) ?_
        rotate_left
        · (intro w hSw; (try dsimp only at hSw); go_simp; try with_reducible rfl)
        simp only [Act.put, List.getElem_toArray, List.getElem_cons_succ, List.getElem_cons_zero, List.setIfInBounds_toArray, List.set_cons_zero, List.set_cons_succ]
        refine wpAnyH_done (by kernel_rfl) ?_ _
        go_wp2
        go_roundw
        case rel => exact ⟨k + 1, _, us ++ [.slice a8 0 cc8], by omega, by omega, rfl, by omega, mkHid (by rw [HS1.out]; exact HC10.out), HB10⟩
        case measure => simp [intOf]; omega
      | some ad =>
        clear hno
        by_cases h20 : R.length ≤ 20
        · have hmin : min (R.length : Int) 20 = (R.length : Int) := by omega
          have h201 : (R.length : Int) ≤ 20 := by omega
          have h202 : ¬ (20 : Int) < (R.length : Int) := by omega
          have HT : Hid (R.take R.length = R.take 20) := by rw [List.take_of_length_le (Nat.le_refl _), List.take_of_length_le h20]; exact mkHid rfl
          have hl0 : R.length = (R.take 20).length := by rw [List.length_take]; omega
          have HL := mkHid hl0
          clear hl0
          go_wp2_with fail
          (try dsimp only [List.append])
          refine wp_region_held_drew (S := fun w' => w'.cell? ⟨b, of + k, none⟩ = some (.slice (some ad) R.length cr)) (by kernel_rfl) g1 (fun hHeld => ?_)
          have hb0 : Below wr.heap.size wr wr.drew := bdrew (Below.refl _ _)
          have HKV := mkHid (HK.out.later hb0)
          have HCV := mkHid (HC.out.later hb0)
          have HBV := mkHid (bon HB.out hb0)
          have hwV : w.heap.size ≤ wr.drew.heap.size := HBV.out.size
          clear hb0
          generalize wr.drew = V at *
          have h202 : ¬ (20 : Int) < (R.length : Int) := by omega
          have h203 : (R.length : Int) ≤ (cr : Int) := by omega
          have h204 : (0 : Int) ≤ (R.length : Int) := by omega
          refine wpAnyH_take (i := 0) (v := ?_) rfl (by kernel_rfl) (by kernel_rfl) (by kernel_rfl) (fun _ _ _ h => h) (Or.inl ⟨by kernel_rfl, ?_⟩) (by assumption) ?_
          rotate_left
          · (intro w hSw; (try dsimp only at hSw); go_simp; try with_reducible rfl)
          simp only [Act.put, List.getElem_toArray, List.getElem_cons_zero, List.setIfInBounds_toArray, List.set_cons_zero, List.set_cons_succ]
          refine wpAnyH_take (i := 2) (v := ?_) rfl (by kernel_rfl) (by kernel_rfl) (by kernel_rfl) (fun _ _ _ h => h) (Or.inl ⟨by kernel_rfl, ?_⟩) (by assumption) ?_
          rotate_left
          · (intro w hSw; (try dsimp only at hSw); go_simp; try with_reducible rfl)
          simp only [Act.put, List.getElem_toArray, List.getElem_cons_succ, List.getElem_cons_zero, List.setIfInBounds_toArray, List.set_cons_zero, List.set_cons_succ]
          refine wpAnyH_take (i := 3) (v := ?_) rfl (by kernel_rfl) (by kernel_rfl) (by kernel_rfl) (fun _ _ _ h => h) (Or.inl ⟨by kernel_rfl, ?_⟩) (by assumption) ?_
          rotate_left
          · (intro w hSw; (try dsimp only at hSw); go_simp; try with_reducible rfl)
          simp only [Act.put, List.getElem_toArray, List.getElem_cons_succ, List.getElem_cons_zero, List.setIfInBounds_toArray, List.set_cons_zero, List.set_cons_succ]
          refine wpAnyH_take (i := 4) (v := ?_) rfl (by kernel_rfl) (by kernel_rfl) (by kernel_rfl) (fun _ _ _ h => h) (Or.inl ⟨by kernel_rfl, ?_⟩) (by assumption) ?_
          rotate_left
          · (intro w hSw; (try dsimp only at hSw); go_simp; try with_reducible rfl)
          simp only [Act.put, List.getElem_toArray, List.getElem_cons_succ, List.getElem_cons_zero, List.setIfInBounds_toArray, List.set_cons_zero, List.set_cons_succ]
          refine wpAnyH_take (i := 5) (v := ?_) rfl (by kernel_rfl) (by kernel_rfl) (by kernel_rfl) (fun _ _ _ h => h) (Or.inl ⟨by kernel_rfl, ?_⟩) (by assumption) ?_
          rotate_left
          · (intro w hSw; (try dsimp only at hSw); go_simp; try with_reducible rfl)
          simp only [Act.put, List.getElem_toArray, List.getElem_cons_succ, List.getElem_cons_zero, List.setIfInBounds_toArray, List.set_cons_zero, List.set_cons_succ]
          refine wpAnyH_take (i := 6) (v := ?_) rfl (by kernel_rfl) (by kernel_rfl) (by kernel_rfl) (fun _ _ _ h => h) (Or.inl ⟨by kernel_rfl, ?_⟩) (by assumption) ?_
          rotate_left
          · (intro w hSw; (try dsimp only at hSw); go_simp; try with_reducible rfl)
          simp only [Act.put, List.getElem_toArray, List.getElem_cons_succ, List.getElem_cons_zero, List.setIfInBounds_toArray, List.set_cons_zero, List.set_cons_succ]
          refine wpAnyH_take (i := 7) (v := ?_) rfl (by kernel_rfl) (by kernel_rfl) (by kernel_rfl) (fun _ _ _ h => h) (Or.inl ⟨by kernel_rfl, ?_⟩) (by assumption) ?_
          rotate_left
          · (intro w hSw; (try dsimp only at hSw); go_simp; try with_reducible rfl)
          simp only [Act.put, List.getElem_toArray, List.getElem_cons_succ, List.getElem_cons_zero, List.setIfInBounds_toArray, List.set_cons_zero, List.set_cons_succ]
          refine wpAnyH_take (i := 8) (v := ?_) rfl (by kernel_rfl) (by kernel_rfl) (by kernel_rfl) (fun _ _ _ h => h) (Or.inl ⟨by kernel_rfl, ?_⟩) (by assumption) ?_
          rotate_left
          · (intro w hSw; (try dsimp only at hSw); go_simp; try with_reducible rfl)
          simp only [Act.put, List.getElem_toArray, List.getElem_cons_succ, List.getElem_cons_zero, List.setIfInBounds_toArray, List.set_cons_zero, List.set_cons_succ]
          refine wpAnyH_take (i := 9) (v := ?_) rfl (by kernel_rfl) (by kernel_rfl) (by kernel_rfl) (fun _ _ _ h => h) (Or.inl ⟨by kernel_rfl, ?_⟩) (by assumption) ?_
          rotate_left
          · (intro w hSw; (try dsimp only at hSw); go_simp; try with_reducible rfl)
          simp only [Act.put, List.getElem_toArray, List.getElem_cons_succ, List.getElem_cons_zero, List.setIfInBounds_toArray, List.set_cons_zero, List.set_cons_succ]
          refine wpAnyH_take (i := 10) (v := ?_) rfl (by kernel_rfl) (by kernel_rfl) (by kernel_rfl) (fun _ _ _ h => h) (Or.inl ⟨by kernel_rfl, ?_⟩) (by assumption) ?_
          rotate_left
          · (intro w hSw; (try dsimp only at hSw); go_simp; try with_reducible rfl)
          simp only [Act.put, List.getElem_toArray, List.getElem_cons_succ, List.getElem_cons_zero, List.setIfInBounds_toArray, List.set_cons_zero, List.set_cons_succ]
          refine wpAnyH_take (i := 11) (v := ?_) rfl (by kernel_rfl) (by kernel_rfl) (by kernel_rfl) (fun _ _ _ h => h) (Or.inl ⟨by kernel_rfl, ?_⟩) (by assumption) ?_
          rotate_left
          · (intro w hSw; (try dsimp only at hSw); go_simp; try with_reducible rfl)
          simp only [Act.put, List.getElem_toArray, List.getElem_cons_succ, List.getElem_cons_zero, List.setIfInBounds_toArray, List.set_cons_zero, List.set_cons_succ]
          refine wpAnyH_take (i := 12) (v := ?_) rfl (by kernel_rfl) (by kernel_rfl) (by kernel_rfl) (fun _ _ _ h => h) (Or.inl ⟨by kernel_rfl, ?_⟩) (by assumption) ?_
          rotate_left
          · (intro w hSw; (try dsimp only at hSw); go_simp; try with_reducible rfl)
          simp only [Act.put, List.getElem_toArray, List.getElem_cons_succ, List.getElem_cons_zero, List.setIfInBounds_toArray, List.set_cons_zero, List.set_cons_succ]
          refine wpAnyH_ready (rs := [1]) (by kernel_rfl) (by simp) ?_
          refine AllReadyH.cons rfl (fun K hK => ?_) AllReadyH.nil
          have b1 := bel_alloc V (.cells #[] 3)
          have O1 : (V.alloc (.cells #[] 3)).ownsRow V.heap.size 3 1 (.slice (some ⟨V.heap.size, 0, none⟩) 0 0) 0 [] := World.ownsRow_lit _ #[] 0 (Nat.le_refl _) (by decide) rfl
          obtain ⟨v8, w8, hrun, ho8, hg8, -⟩ := run_nums .i64 Try.underlying35 hi0 hz0 hz1 hz2 (n := 0) (m := R.length) (c2 := cr) O1 (HKV.out.later b1) (Nat.le_refl _) (by omega) (by omega) b1.size (fun h => by cases h)
          have hb8 : Below V.heap.size V w8 := b1.trans (below_grown hg8 (fun k hk => by simp only [Value.ownBlock, Option.some.injEq] at hk; omega) b1.size)
          have c1 := cell_later b1 hHeld
          have c8 := cell_later hb8 hHeld
          rw [List.nil_append, Nat.zero_add] at ho8
          have HO8 := mkHid ho8
          have HB8 := mkHid hb8
          clear hg8 ho8 O1 hb8 b1
          go_simp
          refine hK.out _ _ c1 (fun hHeld => ?_)
          clear hK
          refine wpAnyH_ready (rs := [13]) (by kernel_rfl) (by simp) ?_
          refine AllReadyH.cons rfl (fun K hK => ?_) AllReadyH.nil
          refine step_run (by rfl) _ _ (by rfl) (by rfl) (by rfl) (by rfl) hrun ?_
          refine hK.out _ _ c8 (fun hHeld => ?_)
          clear hK hrun c1
          refine wpAnyH_ready (rs := [14]) (by kernel_rfl) (by simp) ?_
          refine AllReadyH.cons rfl (fun K hK => ?_) AllReadyH.nil
          obtain ⟨a8, cc8, rfl, -⟩ := own_val HO8.out
          have b9 := bel_alloc w8 (.cells #[.slice a8 R.length cc8] 35)
          have N9 := one_cell w8 (.slice a8 R.length cc8) 35
          have hO9 : (w8.alloc (.cells #[.slice a8 R.length cc8] 35)).ownsRow V.heap.size 3 1 (.slice a8 R.length cc8) (R.take 20).length (nums .i64 (R.take 20)) := by
            have := own_keep HO8.out b9
            rw [← HL.out, ← HT.out]; exact this
          have c9 := cell_later b9 c8
          obtain ⟨v10, w10, hrun, hC10, hb10⟩ := run_row (HCV.out.later (bon HB8.out b9)) hO9 N9 (by omega) (Nat.le_trans hwV (bon HB8.out b9).size)
          have HC10 := mkHid hC10
          have HB10 : Hid (Below w.heap.size w w10) := (bon HBV.out (bon HB8.out b9)).trans hb10
          have c10 : w10.cell? ⟨b, of + k, none⟩ = some (.slice (some ad) R.length cr) := cell_later HB10.out E1.out
          clear hC10 hb10 N9 hO9 b9 c8
          go_simp
          refine hK.out _ _ c9 (fun hHeld => ?_)
          clear hK
          refine wpAnyH_ready (rs := [15]) (by kernel_rfl) (by simp) ?_
          refine AllReadyH.cons rfl (fun K hK => ?_) AllReadyH.nil
          refine step_run (by rfl) _ _ (by rfl) (by rfl) (by rfl) (by rfl) hrun ?_
          refine hK.out _ _ c10 (fun hHeld => ?_)
          clear hK hrun c9
          refine wpAnyH_take (i := 16) (v := ?_) rfl (by kernel_rfl) (by kernel_rfl) (by kernel_rfl) (fun _ _ _ h => h) (Or.inl ⟨by kernel_rfl, ?_⟩) (by assumption) ?_
          rotate_left
          · (intro w hSw; (try dsimp only at hSw); go_simp; try with_reducible rfl)
          simp only [Act.put, List.getElem_toArray, List.getElem_cons_succ, List.getElem_cons_zero, List.setIfInBounds_toArray, List.set_cons_zero, List.set_cons_succ]
          refine wpAnyH_done (by kernel_rfl) ?_ _
          go_wp2
          go_roundw
          case rel => exact ⟨k + 1, _, us ++ [.slice a8 R.length cc8], by omega, by omega, rfl, by omega, mkHid (by rw [HS1.out]; exact HC10.out), HB10⟩
          case measure => simp [intOf]; omega
        · have hmin : min (R.length : Int) 20 = 20 := by omega
          have h201 : ¬ (R.length : Int) ≤ 20 := by omega
          have h202 : (20 : Int) < (R.length : Int) := by omega
          have h203 : 20 ≤ cr := by omega
          have hl0 : (R.take 20).length = 20 := by rw [List.length_take]; omega
          have HL := mkHid hl0
          clear hl0
          go_wp2_with fail
          (try dsimp only [List.append])
          refine wp_region_held_drew (S := fun w' => w'.cell? ⟨b, of + k, none⟩ = some (.slice (some ad) R.length cr)) (by kernel_rfl) g1 (fun hHeld => ?_)
          have hb0 : Below wr.heap.size wr wr.drew := bdrew (Below.refl _ _)
          have HKV := mkHid (HK.out.later hb0)
          have HCV := mkHid (HC.out.later hb0)
          have HBV := mkHid (bon HB.out hb0)
          have hwV : w.heap.size ≤ wr.drew.heap.size := HBV.out.size
          clear hb0
          generalize wr.drew = V at *
          have h203 : (20 : Int) ≤ (cr : Int) := by omega
          refine wpAnyH_take (i := 0) (v := ?_) rfl (by kernel_rfl) (by kernel_rfl) (by kernel_rfl) (fun _ _ _ h => h) (Or.inl ⟨by kernel_rfl, ?_⟩) (by assumption) ?_
          rotate_left
          · (intro w hSw; (try dsimp only at hSw); go_simp; try with_reducible rfl)
          simp only [Act.put, List.getElem_toArray, List.getElem_cons_zero, List.setIfInBounds_toArray, List.set_cons_zero, List.set_cons_succ]
          refine wpAnyH_take (i := 2) (v := ?_) rfl (by kernel_rfl) (by kernel_rfl) (by kernel_rfl) (fun _ _ _ h => h) (Or.inl ⟨by kernel_rfl, ?_⟩) (by assumption) ?_
          rotate_left
          · (intro w hSw; (try dsimp only at hSw); go_simp; try with_reducible rfl)
          simp only [Act.put, List.getElem_toArray, List.getElem_cons_succ, List.getElem_cons_zero, List.setIfInBounds_toArray, List.set_cons_zero, List.set_cons_succ]
          refine wpAnyH_take (i := 3) (v := ?_) rfl (by kernel_rfl) (by kernel_rfl) (by kernel_rfl) (fun _ _ _ h => h) (Or.inl ⟨by kernel_rfl, ?_⟩) (by assumption) ?_
          rotate_left
          · (intro w hSw; (try dsimp only at hSw); go_simp; try with_reducible rfl)
          simp only [Act.put, List.getElem_toArray, List.getElem_cons_succ, List.getElem_cons_zero, List.setIfInBounds_toArray, List.set_cons_zero, List.set_cons_succ]
          refine wpAnyH_take (i := 4) (v := ?_) rfl (by kernel_rfl) (by kernel_rfl) (by kernel_rfl) (fun _ _ _ h => h) (Or.inl ⟨by kernel_rfl, ?_⟩) (by assumption) ?_
          rotate_left
          · (intro w hSw; (try dsimp only at hSw); go_simp; try with_reducible rfl)
          simp only [Act.put, List.getElem_toArray, List.getElem_cons_succ, List.getElem_cons_zero, List.setIfInBounds_toArray, List.set_cons_zero, List.set_cons_succ]
          refine wpAnyH_take (i := 5) (v := ?_) rfl (by kernel_rfl) (by kernel_rfl) (by kernel_rfl) (fun _ _ _ h => h) (Or.inl ⟨by kernel_rfl, ?_⟩) (by assumption) ?_
          rotate_left
          · (intro w hSw; (try dsimp only at hSw); go_simp; try with_reducible rfl)
          simp only [Act.put, List.getElem_toArray, List.getElem_cons_succ, List.getElem_cons_zero, List.setIfInBounds_toArray, List.set_cons_zero, List.set_cons_succ]
          refine wpAnyH_take (i := 6) (v := ?_) rfl (by kernel_rfl) (by kernel_rfl) (by kernel_rfl) (fun _ _ _ h => h) (Or.inl ⟨by kernel_rfl, ?_⟩) (by assumption) ?_
          rotate_left
          · (intro w hSw; (try dsimp only at hSw); go_simp; try with_reducible rfl)
          simp only [Act.put, List.getElem_toArray, List.getElem_cons_succ, List.getElem_cons_zero, List.setIfInBounds_toArray, List.set_cons_zero, List.set_cons_succ]
          refine wpAnyH_take (i := 7) (v := ?_) rfl (by kernel_rfl) (by kernel_rfl) (by kernel_rfl) (fun _ _ _ h => h) (Or.inl ⟨by kernel_rfl, ?_⟩) (by assumption) ?_
          rotate_left
          · (intro w hSw; (try dsimp only at hSw); go_simp; try with_reducible rfl)
          simp only [Act.put, List.getElem_toArray, List.getElem_cons_succ, List.getElem_cons_zero, List.setIfInBounds_toArray, List.set_cons_zero, List.set_cons_succ]
          refine wpAnyH_take (i := 8) (v := ?_) rfl (by kernel_rfl) (by kernel_rfl) (by kernel_rfl) (fun _ _ _ h => h) (Or.inl ⟨by kernel_rfl, ?_⟩) (by assumption) ?_
          rotate_left
          · (intro w hSw; (try dsimp only at hSw); go_simp; try with_reducible rfl)
          simp only [Act.put, List.getElem_toArray, List.getElem_cons_succ, List.getElem_cons_zero, List.setIfInBounds_toArray, List.set_cons_zero, List.set_cons_succ]
          refine wpAnyH_take (i := 9) (v := ?_) rfl (by kernel_rfl) (by kernel_rfl) (by kernel_rfl) (fun _ _ _ h => h) (Or.inl ⟨by kernel_rfl, ?_⟩) (by assumption) ?_
          rotate_left
          · (intro w hSw; (try dsimp only at hSw); go_simp; try with_reducible rfl)
          simp only [Act.put, List.getElem_toArray, List.getElem_cons_succ, List.getElem_cons_zero, List.setIfInBounds_toArray, List.set_cons_zero, List.set_cons_succ]
          refine wpAnyH_take (i := 10) (v := ?_) rfl (by kernel_rfl) (by kernel_rfl) (by kernel_rfl) (fun _ _ _ h => h) (Or.inl ⟨by kernel_rfl, ?_⟩) (by assumption) ?_
          rotate_left
          · (intro w hSw; (try dsimp only at hSw); go_simp; try with_reducible rfl)
          simp only [Act.put, List.getElem_toArray, List.getElem_cons_succ, List.getElem_cons_zero, List.setIfInBounds_toArray, List.set_cons_zero, List.set_cons_succ]
          refine wpAnyH_take (i := 11) (v := ?_) rfl (by kernel_rfl) (by kernel_rfl) (by kernel_rfl) (fun _ _ _ h => h) (Or.inl ⟨by kernel_rfl, ?_⟩) (by assumption) ?_
          rotate_left
          · (intro w hSw; (try dsimp only at hSw); go_simp; try with_reducible rfl)
          simp only [Act.put, List.getElem_toArray, List.getElem_cons_succ, List.getElem_cons_zero, List.setIfInBounds_toArray, List.set_cons_zero, List.set_cons_succ]
          refine wpAnyH_take (i := 12) (v := ?_) rfl (by kernel_rfl) (by kernel_rfl) (by kernel_rfl) (fun _ _ _ h => h) (Or.inl ⟨by kernel_rfl, ?_⟩) (by assumption) ?_
          rotate_left
          · (intro w hSw; (try dsimp only at hSw); go_simp; try with_reducible rfl)
          simp only [Act.put, List.getElem_toArray, List.getElem_cons_succ, List.getElem_cons_zero, List.setIfInBounds_toArray, List.set_cons_zero, List.set_cons_succ]
          refine wpAnyH_ready (rs := [1]) (by kernel_rfl) (by simp) ?_
          refine AllReadyH.cons rfl (fun K hK => ?_) AllReadyH.nil
          have b1 := bel_alloc V (.cells #[] 3)
          have O1 : (V.alloc (.cells #[] 3)).ownsRow V.heap.size 3 1 (.slice (some ⟨V.heap.size, 0, none⟩) 0 0) 0 [] := World.ownsRow_lit _ #[] 0 (Nat.le_refl _) (by decide) rfl
          obtain ⟨v8, w8, hrun, ho8, hg8, -⟩ := run_nums .i64 Try.underlying35 hi0 hz0 hz1 hz2 (n := 0) (m := 20) (c2 := cr) O1 (HKV.out.later b1) (by omega) (by omega) (by omega) b1.size (fun h => by cases h)
          have hb8 : Below V.heap.size V w8 := b1.trans (below_grown hg8 (fun k hk => by simp only [Value.ownBlock, Option.some.injEq] at hk; omega) b1.size)
          have c1 := cell_later b1 hHeld
          have c8 := cell_later hb8 hHeld
          rw [List.nil_append, Nat.zero_add] at ho8
          have HO8 := mkHid ho8
          have HB8 := mkHid hb8
          clear hg8 ho8 O1 hb8 b1
          go_simp
          refine hK.out _ _ c1 (fun hHeld => ?_)
          clear hK
          refine wpAnyH_ready (rs := [13]) (by kernel_rfl) (by simp) ?_
          refine AllReadyH.cons rfl (fun K hK => ?_) AllReadyH.nil
          refine step_run (by rfl) _ _ (by rfl) (by rfl) (by rfl) (by rfl) hrun ?_
          refine hK.out _ _ c8 (fun hHeld => ?_)
          clear hK hrun c1
          refine wpAnyH_ready (rs := [14]) (by kernel_rfl) (by simp) ?_
          refine AllReadyH.cons rfl (fun K hK => ?_) AllReadyH.nil
          obtain ⟨a8, cc8, rfl, -⟩ := own_val HO8.out
          have b9 := bel_alloc w8 (.cells #[.slice a8 20 cc8] 35)
          have N9 := one_cell w8 (.slice a8 20 cc8) 35
          have hO9 : (w8.alloc (.cells #[.slice a8 20 cc8] 35)).ownsRow V.heap.size 3 1 (.slice a8 20 cc8) (R.take 20).length (nums .i64 (R.take 20)) := by
            have := own_keep HO8.out b9
            have e := HL.out; rw [e]; exact this
          have c9 := cell_later b9 c8
          obtain ⟨v10, w10, hrun, hC10, hb10⟩ := run_row (HCV.out.later (bon HB8.out b9)) hO9 N9 (by omega) (Nat.le_trans hwV (bon HB8.out b9).size)
          have HC10 := mkHid hC10
          have HB10 : Hid (Below w.heap.size w w10) := (bon HBV.out (bon HB8.out b9)).trans hb10
          have c10 : w10.cell? ⟨b, of + k, none⟩ = some (.slice (some ad) R.length cr) := cell_later HB10.out E1.out
          clear hC10 hb10 N9 hO9 b9 c8
          go_simp
          refine hK.out _ _ c9 (fun hHeld => ?_)
          clear hK
          refine wpAnyH_ready (rs := [15]) (by kernel_rfl) (by simp) ?_
          refine AllReadyH.cons rfl (fun K hK => ?_) AllReadyH.nil
          refine step_run (by rfl) _ _ (by rfl) (by rfl) (by rfl) (by rfl) hrun ?_
          refine hK.out _ _ c10 (fun hHeld => ?_)
          clear hK hrun c9
          refine wpAnyH_take (i := 16) (v := ?_) rfl (by kernel_rfl) (by kernel_rfl) (by kernel_rfl) (fun _ _ _ h => h) (Or.inl ⟨by kernel_rfl, ?_⟩) (by assumption) ?_
          rotate_left
          · (intro w hSw; (try dsimp only at hSw); go_simp; try with_reducible rfl)
          simp only [Act.put, List.getElem_toArray, List.getElem_cons_succ, List.getElem_cons_zero, List.setIfInBounds_toArray, List.set_cons_zero, List.set_cons_succ]
          refine wpAnyH_done (by kernel_rfl) ?_ _
          go_wp2
          go_roundw
          case rel => exact ⟨k + 1, _, us ++ [.slice a8 20 cc8], by omega, by omega, rfl, by omega, mkHid (by rw [HS1.out]; exact HC10.out), HB10⟩
          case measure => simp [intOf]; omega
    · have HC2 := HC.out
      rw [HE.out k (by omega)] at HC2
      have HC3 := mkHid HC2
      have hways : ¬ (k : Int) < (n : Int) ∨ (k : Int) < (n : Int) ∧ ¬ (k : Int) < 50 := by omega
      have hru := HU.out.later HB.out
      clear HR HF HS HE H0 HLN HC2 hlt HU
      cases a0 with
      | none =>
        obtain ⟨rfl, rfl⟩ := hru.none_nil
        obtain rfl : mm = 0 := by rw [← HMM.out]; rfl
        obtain ⟨g, cap, w2, hrun, hg, ha2, hb2⟩ := run_apart (m := 0) (c2 := 0) hru (Nat.zero_le _) (by omega) (fun _ => rfl)
        have e0 : ([] : List Int).length = 0 := rfl
        have HA2 := mkHid ha2
        have HB9 := mkHid hb2
        have HB2 := mkHid (bon HB.out hb2)
        have hg2 : w.heap.size ≤ g := Nat.le_trans HB.out.size hg
        clear ha2 hb2 hru
        rw [e0] at *
        rcases hways with h1 | ⟨h1, h2⟩
        all_goals
          go_wp2_with (at_builtin
                       refine wpList_run rfl (.tmp 35) (.tmp 40) rfl rfl (by rfl) (by rfl) hrun ?_)
          go_ret2
          exact ⟨_, us, g, cap, rfl, HC3.out.later HB9.out, hg2, HA2.out, HB2.out⟩
      | some ad =>
        by_cases h50 : A.length ≤ 50
        · skip
          have h51 : ¬ (50 : Int) < (A.length : Int) := by omega
          have h52 : (A.length : Int) ≤ (c0 : Int) := by omega
          have hml : A.length ≤ A.length := Nat.le_refl _
          obtain rfl : mm = A.length := by rw [← HMM.out, List.length_take]; omega
          have hl1 : A.take A.length = A.take 50 := by rw [List.take_of_length_le (Nat.le_refl _), List.take_of_length_le h50]
          obtain ⟨g, cap, w2, hrun, hg, ha2, hb2⟩ := run_apart (m := A.length) (c2 := c0) hru hml (by omega) (fun h => by cases h)
          rw [hl1] at ha2
          have HA2 := mkHid ha2
          have HB9 := mkHid hb2
          have HB2 := mkHid (bon HB.out hb2)
          have hg2 : w.heap.size ≤ g := Nat.le_trans HB.out.size hg
          clear ha2 hb2 hru hml hl1
          rcases hways with h1 | ⟨h1, h2⟩
          all_goals
            go_wp2_with (at_builtin
                         refine wpList_run rfl (.tmp 35) (.tmp 40) rfl rfl (by rfl) (by rfl) hrun ?_)
            go_ret2
            exact ⟨_, us, g, cap, rfl, HC3.out.later HB9.out, hg2, HA2.out, HB2.out⟩
        · skip
          have h51 : (50 : Int) < (A.length : Int) := by omega
          have h52 : (50 : Int) ≤ (c0 : Int) := by omega
          have hml : 50 ≤ A.length := by omega
          obtain rfl : mm = 50 := by rw [← HMM.out, List.length_take]; omega
          obtain ⟨g, cap, w2, hrun, hg, ha2, hb2⟩ := run_apart (m := 50) (c2 := c0) hru hml (by omega) (fun h => by cases h)
          skip
          have HA2 := mkHid ha2
          have HB9 := mkHid hb2
          have HB2 := mkHid (bon HB.out hb2)
          have hg2 : w.heap.size ≤ g := Nat.le_trans HB.out.size hg
          clear ha2 hb2 hru hml
          rcases hways with h1 | ⟨h1, h2⟩
          all_goals
            go_wp2_with (at_builtin
                         refine wpList_run rfl (.tmp 35) (.tmp 40) rfl rfl (by rfl) (by rfl) hrun ?_)
            go_ret2
            exact ⟨_, us, g, cap, rfl, HC3.out.later HB9.out, hg2, HA2.out, HB2.out⟩
end Go.Proofs.Ytilhamnibdjfaaa
