/-
  What the document's Holds and opens answer.
-/
import Derived.Test.YtilhamnibdjfaaaPrF
namespace Go.Proofs.Ytilhamnibdjfaaa
open Go.RowKit

theorem tr_drop {A R : List Int} {k : Nat} (h : k < R.length) (e : tr A R = tr A (R.drop k)) : (wh A (R.getD k 0) = 1 → tr A R = true) ∧ (wh A (R.getD k 0) ≠ 1 → tr A R = tr A (R.drop (k + 1))) := by
  rw [drop_get h] at e
  unfold tr at e ⊢
  rw [List.any_cons] at e
  refine ⟨fun h1 => ?_, fun h1 => ?_⟩
  · rw [e, decide_eq_true h1]; rfl
  · rw [e, decide_eq_false h1]; rfl
set_option maxRecDepth 100000 in
set_option maxHeartbeats 4000000 in
theorem rholds_any (R A : List Int) (v u : Value) (w : World) (hv : RK .i64 w v R) (hu : RK .i8 w u A) (hl : R.length ≤ 1000) (hA : A.length ≤ 1000) (hf : Fit R) :
    Calls Try.prog 20 #[v, u] w (RetV (.bool (tr A R)) w) := by
  have WH := mkHid (fun x w hu h1 h2 => rtrue_any x A u w hu hA h1 h2)
  obtain ⟨a, c, rfl, hc, -, hr⟩ := hv
  have HR := mkHid hr
  have HF := mkHid hf.get
  have HU := mkHid hu
  obtain ⟨J, J0, JE, JC⟩ : ∃ J : Nat → Prop, J 0 ∧ Hid (∀ k, k = R.length → J k → tr A R = false) ∧ Hid (∀ k, k < R.length → J k → (wh A (R.getD k 0) = 1 → tr A R = true) ∧ (wh A (R.getD k 0) ≠ 1 → J (k + 1))) :=
    ⟨fun k => tr A R = tr A (R.drop k), rfl, fun k h e => by rw [e, h, List.drop_length]; rfl, fun k h e => tr_drop h e⟩
  clear hr hf hu
  generalize R.length = n at *
  obtain ⟨f, hfd⟩ : ∃ f : Nat → Int, f = fun j => R.getD j 0 := ⟨_, rfl⟩
  have ef : ∀ j, R.getD j 0 = f j := fun j => by rw [hfd]
  simp only [ef] at *
  clear ef hfd
  generalize tr A R = res at *
  go_enter Try.func20, Try.ntmps20
  go_wp2
  go_loopw [5] (fun i w' => ∃ (k : Nat) (x : Int), k ≤ n ∧ i = .int .i64 x ∧ x = k ∧ Hid (J k) ∧ Hid (Below w.heap.size w w')) (fun i _ => (n - intOf i).toNat)
  case atStart => exact ⟨0, 0, Nat.zero_le _, rfl, rfl, J0, mkHid (Below.refl _ _)⟩
  case round =>
    obtain ⟨k, x, hk, rfl, hxk, HJ, HB⟩ := hrel
    obtain rfl : x = (k : Int) := hxk
    clear J0
    by_cases hlt : k < n
    · obtain ⟨b, of, rfl, e1⟩ := HR.out k hlt
      obtain ⟨c1, c2⟩ := JC.out k hlt HJ.out
      have C1 := mkHid c1
      have C2 := mkHid c2
      obtain ⟨f1, f2⟩ := HF.out k hlt
      have g1 := cell_later HB.out e1
      clear c1 c2 JC JE HR HF e1
      have hlt' : (k : Int) < (n : Int) := by omega
      have W1 := mkHid (fun w hu => WH.out (f k) w hu f1 f2)
      clear WH f1 f2
      by_cases h1 : wh A (f k) = 1
      · rw [decide_eq_true h1] at W1
        have HN := mkHid (C1.out h1)
        clear C1 C2 h1
        generalize f k = y at *
        go_wp2_with (go_at_call 26; ((with_reducible refine (W1.out _ (HU.out.later HB.out)).mono ?_)); rintro e w4 ⟨rfl, hb4⟩)
        go_ret
        exact ⟨by rw [HN.out]; rfl, bon HB.out hb4⟩
      · rw [decide_eq_false h1] at W1
        have HN := mkHid (C2.out h1)
        clear C1 C2 h1
        generalize f k = y at *
        go_wp2_with (go_at_call 26; ((with_reducible refine (W1.out _ (HU.out.later HB.out)).mono ?_)); rintro e w4 ⟨rfl, hb4⟩)
        go_roundw
        case rel => exact ⟨k + 1, _, by omega, rfl, by omega, HN, mkHid (bon HB.out hb4)⟩
        case measure => simp [intOf]; omega
    · have HN := mkHid (JE.out k (by omega) HJ.out)
      clear JC JE HR HF WH
      have hlt' : ¬ (k : Int) < (n : Int) := by omega
      go_wp2
      go_ret
      exact ⟨by rw [HN.out]; rfl, HB.out⟩
theorem one_cell (w : World) (x : Value) (t : TypeId) : ∀ i u, [x][i]? = some u → (w.alloc (.cells #[x] t)).cell? ((⟨w.heap.size, 0, none⟩ : Addr).add i) = some u := by
  intro i u h
  match i, h with
  | 0, h => simpa [go_sem, Addr.add] using h
  | i + 1, h => simp at h
/-- is x none of the first j? -/
def newB (out : List Int) (x : Int) (j : Nat) : Bool := decide (∀ i, i < j → out.getD i 0 ≠ x)
theorem newB_succ (out : List Int) (x : Int) (j : Nat) : newB out x (j + 1) = (newB out x j && (out.getD j 0 != x)) := by
  unfold newB
  rw [Bool.eq_iff_iff]
  simp only [decide_eq_true_eq, Bool.and_eq_true, bne_iff_ne]
  constructor
  · intro h; exact ⟨fun j hj => h j (by omega), h j (by omega)⟩
  · rintro ⟨h1, h2⟩ i hi
    by_cases e : i = j
    · subst e; exact h2
    · exact h1 i (by omega)
theorem newB_all (out : List Int) (x : Int) : newB out x out.length = decide (x ∉ out) := by
  unfold newB
  rw [Bool.eq_iff_iff]
  simp only [decide_eq_true_eq]
  constructor
  · intro h hm
    obtain ⟨i, hi, e⟩ := List.getElem_of_mem hm
    refine h i hi ?_
    rw [List.getD_eq_getElem?_getD, List.getElem?_eq_getElem hi]; exact e
  · intro h i hi e
    refine h ?_
    rw [← e, List.getD_eq_getElem?_getD, List.getElem?_eq_getElem hi]
    exact List.getElem_mem hi
set_option maxRecDepth 100000 in
set_option maxHeartbeats 4000000 in
theorem ropens_any (R A : List Int) (v u : Value) (w : World) (hv : RK .i64 w v R) (hu : RK .i8 w u A) (hl : R.length ≤ 1000) (hA : A.length ≤ 1000) (hf : Fit R) :
    Calls Try.prog 25 #[v, u] w fun e w' => ∃ o, e = .returned o ∧ w'.ownsRow w.heap.size 3 1 o (opn A R).length (nums .i64 (opn A R)) ∧ Below w.heap.size w w' := by
  obtain ⟨i0, hi0, hz0, hz1, hz2⟩ := int_parts
  have WH := mkHid (fun x w hu h1 h2 => ropen_any x A u w hu hA h1 h2)
  obtain ⟨a, c, rfl, hc, -, hr⟩ := hv
  have HR := mkHid hr
  have HF := mkHid hf.get
  have HU := mkHid hu
  obtain ⟨J, J0, JE, JC⟩ : ∃ J : List Int → Nat → Prop, J [] 0 ∧ Hid (∀ out k, k = R.length → J out k → opn A R = out) ∧ Hid (∀ out k, k < R.length → J out k → out.length ≤ k ∧ J (opStep A out (R.getD k 0)) (k + 1)) := by
    refine ⟨fun out k => k ≤ R.length ∧ out.length ≤ k ∧ opn A R = (R.drop k).foldl (opStep A) out, ⟨Nat.zero_le _, Nat.le_refl _, rfl⟩, fun out k h ⟨_, _, e⟩ => by rw [e, h, List.drop_length]; rfl, fun out k h ⟨_, e1, e⟩ => ⟨e1, h, ?_, by rw [e, foldl_drop (d := 0) h]⟩⟩
    unfold opStep
    split
    · rw [List.length_append]; simp; omega
    · omega
  clear hr hf hu
  generalize R.length = n at *
  obtain ⟨f, hfd⟩ : ∃ f : Nat → Int, f = fun j => R.getD j 0 := ⟨_, rfl⟩
  have ef : ∀ j, R.getD j 0 = f j := fun j => by rw [hfd]
  simp only [ef] at *
  clear ef hfd
  generalize opn A R = res at *
  go_enter Try.func25, Try.ntmps25
  go_wp2
  go_loopw [5, 6] (fun q i w' => ∃ (k : Nat) (x : Int) (out : List Int), k ≤ n ∧ i = .int .i64 x ∧ x = k ∧ Hid (J out k) ∧ Hid (w'.ownsRow w.heap.size 3 1 q out.length (nums .i64 out)) ∧ Hid (Below w.heap.size w w')) (fun _ i _ => (n - intOf i).toNat)
  case atStart => exact ⟨0, 0, [], Nat.zero_le _, rfl, rfl, J0, World.ownsRow_lit _ #[] 0 (Nat.le_refl _) (by decide) rfl, mkHid (bel_alloc _ _)⟩
  case round =>
    obtain ⟨k, x, out, hk, rfl, hxk, HJ, HO, HB⟩ := hrel
    obtain rfl : x = (k : Int) := hxk
    clear J0
    by_cases hlt : k < n
    · obtain ⟨b, of, rfl, e1⟩ := HR.out k hlt
      obtain ⟨c1, c2⟩ := JC.out out k hlt HJ.out
      have C2 := mkHid c2
      obtain ⟨f1, f2⟩ := HF.out k hlt
      have E1 := mkHid e1
      have g1 := cell_later HB.out e1
      clear c2 JC JE HR HF e1
      have hlt' : (k : Int) < (n : Int) := by omega
      have W1 := mkHid (fun w hu => WH.out (f k) w hu f1 f2)
      clear WH f1 f2
      have HNS := mkHid (newB_succ out (f k))
      have HNA := mkHid (newB_all out (f k))
      have HN0 : Hid (newB out (f k) 0 = true) := decide_eq_true (fun i hi => absurd hi (Nat.not_lt_zero i))
      have HST : Hid ((decide (wh A (f k) = 0) && newB out (f k) out.length) = true → J (out ++ [f k]) (k + 1)) := fun h => by
        rw [HNA.out] at h
        simp only [Bool.and_eq_true, decide_eq_true_eq] at h
        have := C2.out
        unfold opStep at this
        rwa [if_pos h] at this
      have HSF : Hid ((decide (wh A (f k) = 0) && newB out (f k) out.length) = false → J out (k + 1)) := fun h => by
        rw [HNA.out] at h
        have h' : ¬ (wh A (f k) = 0 ∧ f k ∉ out) := fun ⟨e1, e2⟩ => by simp [e1, e2] at h
        have := C2.out
        unfold opStep at this
        rwa [if_neg h'] at this
      clear C2 HNA
      generalize newB out (f k) = nb at *
      generalize f k = y at *
      generalize decide (wh A y = 0) = op at *
      obtain ⟨aq, cq, rfl, hcq, h0q⟩ := own_val HO.out
      have HQ : Hid (∀ j, j < out.length → ∃ b o, aq = some ⟨b, o, none⟩ ∧ wr.cell? ⟨b, o + j, none⟩ = some (.int .i64 (out.getD j 0))) := by
        obtain ⟨a9, c9, e9, -, -, h9⟩ := RK.of_own HO.out
        simp only [Value.slice.injEq, true_and] at e9
        obtain ⟨rfl, rfl⟩ := e9
        exact h9
      clear h0q
      obtain ⟨m, hm⟩ : ∃ m, out.length = m := ⟨_, rfl⟩
      have HM := mkHid hm
      rw [hm] at c1 hcq HST HSF
      obtain ⟨fo, hfo⟩ : ∃ fo : Nat → Int, fo = fun j => out.getD j 0 := ⟨_, rfl⟩
      have eo : ∀ j, out.getD j 0 = fo j := fun j => by rw [hfo]
      simp only [eo] at HQ HNS
      rw [hm] at HQ HO ⊢
      clear eo hfo hm
      go_wp2_with (go_at_call 19; ((with_reducible refine (W1.out _ (HU.out.later HB.out)).mono ?_)); rintro e w4 ⟨rfl, hb4⟩)
      have HB4 := mkHid hb4
      clear hb4
      go_loopw [7, 8] (fun q i w' => ∃ (j : Nat) (x : Int) (bb : Bool), j ≤ m ∧ i = .int .i64 x ∧ x = j ∧ q = .bool bb ∧ Hid (bb = (op && nb j)) ∧ Hid (Below wr.heap.size wr w')) (fun _ i _ => (m - intOf i).toNat)
      case atStart => exact ⟨0, 0, op, Nat.zero_le _, rfl, rfl, rfl, mkHid (by rw [HN0.out, Bool.and_true]), HB4⟩
      case round =>
        obtain ⟨j, x, bb, hj, rfl, hxj, rfl, HBB, HB5⟩ := hrel
        obtain rfl : x = (j : Int) := hxj
        clear HB4
        by_cases hlj : j < m
        · obtain ⟨bq, oq, rfl, e2⟩ := HQ.out j hlj
          have g2 := cell_later HB5.out e2
          have g3 := cell_later (bon HB.out HB5.out) E1.out
          have hlj' : (j : Int) < (m : Int) := by omega
          have HSB : Hid (∀ q, (bb && (fo j != y)) = q → q = (op && nb (j + 1))) := fun q h => by rw [HNS.out, ← h, HBB.out, Bool.and_assoc]
          clear HQ HNS HBB HN0 HST HSF W1 e2
          generalize fo j = z at *
          cases bb
          · have HS2 := mkHid (HSB.out false rfl)
            clear HSB
            go_wp2_with fail
            go_quiet (fail)
            go_wp2
            go_roundw
            case rel => exact ⟨j + 1, _, false, by omega, rfl, by omega, rfl, HS2, mkHid (below_drewN HB5.out nq)⟩
            case measure => simp [intOf]; omega
          · have HS2 := mkHid (HSB.out (z != y) (Bool.true_and _))
            clear HSB
            generalize hzy : (z != y) = zy at *
            go_wp2_with fail
            go_quiet (fail)
            go_wp2
            go_roundw
            case rel => exact ⟨j + 1, _, zy, by omega, rfl, by omega, rfl, HS2, mkHid (below_drewN HB5.out nq)⟩
            case measure => simp [intOf]; omega
        · obtain rfl : j = m := by omega
          have g3 := cell_later (bon HB.out HB5.out) E1.out
          have hlj' : ¬ (j : Int) < (j : Int) := by omega
          have HO5 := mkHid (own_keep HO.out HB5.out)
          clear HQ HNS HN0 W1
          cases bb
          · have HJ2 := mkHid (HSF.out HBB.out.symm)
            clear HST HSF
            go_wp2
            go_roundw
            case rel => exact ⟨k + 1, _, out, by omega, rfl, by omega, HJ2, mkHid (by rw [HM.out]; exact HO5.out), mkHid (bon HB.out HB5.out)⟩
            case measure => simp [intOf]; omega
          · have HJ2 := mkHid (HST.out HBB.out.symm)
            have hown := HO5.out
            have hsz : w.heap.size ≤ wr.heap.size := (bon HB.out HB5.out).size
            clear HST HSF
            go_wp2_with (at_builtin
                         refine wpList_append_own _ rfl (.tmp 41) (.tmp 46) _ rfl w.heap.size 3 i0 _ 1 8 Try.underlying35 hi0 hz0 hz1 hz2 rfl (by omega) (.slice aq j cq) j (nums .i64 out) rfl (World.ownsRow.alloc hown _) ⟨wr.heap.size, 0, none⟩ 1 1 [.int .i64 y] rfl rfl (one_cell _ _ _) (nums_one .i64 [y]) (by simp only [maxLen]; omega) (by omega) (by simp; omega) ?_
                         intro v1 w1 hown1 hg1 hv1)
            go_roundw
            case rel => exact ⟨k + 1, _, out ++ [y], by omega, rfl, by omega, HJ2, mkHid (by rw [List.length_append, HM.out, nums_append]; exact hown1), mkHid (Below.grown (bal (bon HB.out HB5.out) _) hg1 (by simp; omega) (fun i hi => (hown.lt i hi).1))⟩
            case measure => simp [intOf]; omega
    · have HN := mkHid (JE.out out k (by omega) HJ.out)
      clear JC JE HR HF WH
      have hlt' : ¬ (k : Int) < (n : Int) := by omega
      go_wp2
      go_ret
      exact ⟨_, rfl, by rw [HN.out]; exact HO.out, HB.out⟩
end Go.Proofs.Ytilhamnibdjfaaa
