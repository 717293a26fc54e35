/-
  What the document's next, Unit and Eval answer.
-/
import Derived.Test.YtilhamnibdjfaaaPrG
namespace Go.Proofs.Ytilhamnibdjfaaa
open Go.RowKit

def lst (r : Int) : List Int := if r = 0 then [] else [r]
def NextP (q : Option Int) (w : World) (e : Ending) (w' : World) : Prop :=
  ∃ v, e = .returned (.tuple #[v, .bool q.isSome]) ∧ (∀ r, q = some r → w'.ownsRow w.heap.size 3 1 v (lst r).length (nums .i64 (lst r))) ∧ Below w.heap.size w w'
theorem lst_len (r : Int) : (lst r).length < 2 := by unfold lst; split <;> simp
set_option maxRecDepth 100000 in
set_option maxHeartbeats 4000000 in
theorem rnext_any (L : List (List Int)) (A : List Int) (v u : Value) (w : World) (hv : RR w v L) (hu : RK .i8 w u A) (hl : L.length ≤ 1000) (hA : A.length ≤ 1000) (hf : ∀ c ∈ L, Fit c ∧ c.length ≤ 1000) :
    Calls Try.prog 23 #[v, u] w (NextP (L.findSome? (ask A)) w) := by
  have OP := mkHid (fun R v w hv hu hl hf => ropens_any R A v u w hv hu hl hA hf)
  have HO := mkHid (fun R v w hv hu hl hf => rholds_any R A v u w hv hu hl hA hf)
  have HF : Hid (∀ k, k < L.length → Fit (L.getD k []) ∧ (L.getD k []).length ≤ 1000) := fun k hk => by
    have e : L.getD k [] = L[k] := by rw [List.getD_eq_getElem?_getD, List.getElem?_eq_getElem hk]; rfl
    rw [e]; exact hf _ (List.getElem_mem _)
  obtain ⟨a, c, rfl, hc, -, hr⟩ := hv
  have HR := mkHid hr
  have HU := mkHid hu
  have FA : Hid (∀ k, k < L.length → (∀ i, i < k → ask A (L.getD i []) = none) → ∀ y, ask A (L.getD k []) = some y → L.findSome? (ask A) = some y) := fun k hk hn y e => findSome_at hk hn e
  have HFN : Hid ((∀ i, i < L.length → ask A (L.getD i []) = none) → L.findSome? (ask A) = none) := fun h => findSome_last h
  clear hr hf hu
  generalize L.findSome? (ask A) = res at *
  generalize L.length = n at *
  obtain ⟨f, hfd⟩ : ∃ f : Nat → List Int, f = fun j => L.getD j [] := ⟨_, rfl⟩
  have ef : ∀ j, L.getD j [] = f j := fun j => by rw [hfd]
  simp only [ef] at *
  clear ef hfd
  go_enter Try.func23, Try.ntmps23
  go_wp2
  go_loopw [6] (fun i w' => ∃ (k : Nat) (x : Int), k ≤ n ∧ i = .int .i64 x ∧ x = k ∧ Hid (∀ i, i < k → ask A (f i) = none) ∧ Hid (Below w.heap.size w w')) (fun i _ => (n - intOf i).toNat)
  case atStart => exact ⟨0, 0, Nat.zero_le _, rfl, rfl, fun i hi => absurd hi (Nat.not_lt_zero i), mkHid (Below.refl _ _)⟩
  case round =>
    obtain ⟨k, x, hk, rfl, hxk, HN, HB⟩ := hrel
    obtain rfl : x = (k : Int) := hxk
    by_cases hlt : k < n
    · obtain ⟨b, of, r, rfl, e1, hrk⟩ := HR.out k hlt
      obtain ⟨f1, f2⟩ := HF.out k hlt
      have E1 := mkHid e1
      have g1 := cell_later HB.out e1
      have HK := mkHid hrk
      have W1 := mkHid (fun wx hv hu => OP.out (f k) r wx hv hu f2 f1)
      have W2 := mkHid (fun wx hv hu => HO.out (f k) r wx hv hu f2 f1)
      have hlt' : (k : Int) < (n : Int) := by omega
      clear e1 hrk HR HF OP HO f1
      have HX := mkHid (FA.out k hlt HN.out)
      have HN1 : Hid (ask A (f k) = none → ∀ i, i < k + 1 → ask A (f i) = none) := fun h i hi => by
        rcases Nat.lt_or_ge i k with h9 | h9
        · exact HN.out i h9
        · obtain rfl : i = k := by omega
          exact h
      clear HN FA HFN
      have NN : Hid (ask A (f k) = none → tr A (f k) = true ∨ 2 ≤ (opn A (f k)).length) := fun h => next_none h
      have NS : Hid (∀ r, ask A (f k) = some r → tr A (f k) = false ∧ opn A (f k) = lst r) := fun r h => next_some h
      have OL : Hid ((opn A (f k)).length ≤ 100000) := by
        have h9 : (opn A (f k)).length ≤ 0 + (f k).length := opn_len (out := [])
        exact Nat.le_trans h9 (by omega)
      clear f2
      generalize ask A (f k) = q at *
      generalize tr A (f k) = tt at *
      generalize opn A (f k) = oo at *
      generalize f k = c0 at *
      have hol := OL.out
      match q with
      | none =>
        have HN2 := mkHid (HN1.out rfl)
        have hway := NN.out rfl
        clear HN1 HX NN NS OL
        cases tt with
        | true =>
          clear hway
          go_wp2_with (first
            | (go_at_call 25; ((with_reducible refine (W1.out _ (HK.out.later HB.out) (HU.out.later HB.out)).mono ?_)); rintro e w4 ⟨o4, rfl, ho4, hb4⟩; have HB4 := mkHid (bon HB.out hb4); have g4 := cell_later HB4.out E1.out; clear hb4; obtain ⟨ao, co, rfl, hco, hno⟩ := own_val ho4; clear hno)
            | (go_at_call 20; ((with_reducible refine (W2.out _ (HK.out.later HB4.out) (HU.out.later HB4.out)).mono ?_)); rintro e w5 ⟨rfl, hb5⟩))
          go_roundw
          case rel => exact ⟨k + 1, _, by omega, rfl, by omega, HN2, mkHid (bon HB4.out hb5)⟩
          case measure => simp [intOf]; omega
        | false =>
          have h2 : ¬ ((oo.length : Nat) : Int) < 2 := by rcases hway with h | h; cases h; omega
          have h63 : ((oo.length : Nat) : Int) ≤ 9223372036854775807 := by omega
          clear hway
          go_wp2_with (first
            | (go_at_call 25; ((with_reducible refine (W1.out _ (HK.out.later HB.out) (HU.out.later HB.out)).mono ?_)); rintro e w4 ⟨o4, rfl, ho4, hb4⟩; have HB4 := mkHid (bon HB.out hb4); have g4 := cell_later HB4.out E1.out; clear hb4; obtain ⟨ao, co, rfl, hco, hno⟩ := own_val ho4; clear hno)
            | (go_at_call 20; ((with_reducible refine (W2.out _ (HK.out.later HB4.out) (HU.out.later HB4.out)).mono ?_)); rintro e w5 ⟨rfl, hb5⟩))
          go_roundw
          case rel => exact ⟨k + 1, _, by omega, rfl, by omega, HN2, mkHid (bon HB4.out hb5)⟩
          case measure => simp [intOf]; omega
      | some y =>
        obtain ⟨rfl, rfl⟩ := NS.out y rfl
        have HE := mkHid (HX.out y rfl)
        have h2 : (((lst y).length : Nat) : Int) < 2 := by have := lst_len y; omega
        clear HN1 HX NN NS OL
        generalize hls : lst y = ls at *
        have HLS := mkHid hls
        clear hls
        go_wp2_with (first
          | (go_at_call 25; ((with_reducible refine (W1.out _ (HK.out.later HB.out) (HU.out.later HB.out)).mono ?_)); rintro e w4 ⟨o4, rfl, ho4, hb4⟩; have HB4 := mkHid (bon HB.out hb4); have g4 := cell_later HB4.out E1.out; have hsz := HB.out.size; clear hb4; obtain ⟨ao, co, rfl, hco, hno⟩ := own_val ho4; clear hno)
          | (go_at_call 20; ((with_reducible refine (W2.out _ (HK.out.later HB4.out) (HU.out.later HB4.out)).mono ?_)); rintro e w5 ⟨rfl, hb5⟩))
        go_ret2
        refine ⟨_, by rw [HE.out]; rfl, fun r hr => ?_, bon HB4.out hb5⟩
        rw [HE.out] at hr
        obtain rfl := Option.some.inj hr
        rw [HLS.out]
        exact own_base (own_keep ho4 hb5) hsz
    · have HE := mkHid (HFN.out (fun i hi => HN.out i (by omega)))
      have hlt' : ¬ (k : Int) < (n : Int) := by omega
      clear HR HF FA
      go_wp2
      go_ret2
      exact ⟨_, by rw [HE.out]; rfl, fun r hr => (by rw [HE.out] at hr; cases hr), HB.out⟩
/-- a builtin append whose run is known, in a plain region -/
theorem wpList_run {ops : Array Oper} {rest : List Oper} {o : Oper} {a : Act} {w w' : World} {v r v' : Value} {Q : Exit → Act → World → Prop} {ts : TypeId} (hgd : o.guard = none) (s x : Operand) (hty : o.type = ts)
    (ho : o.op = .call { callee := .builtin .append, args := #[s, x], argTypes := #[ts, ts] }) (hs : a.eval s = v) (hx : a.eval x = r) (hrun : (Builtin.append_ #[ts, ts] ts #[v, r]).run Try.prog w = .ok v' w')
    (h : wpList Try.prog ops Q rest (a.put o.dst v') w') : wpList Try.prog ops Q (o :: rest) a w :=
  wpList_plain hgd fun _ hK => by
    unfold Oper.wp execOp
    simp only [ho, hty, resolve, invoke, builtin, Sem.run_bind, Sem.run_pure, Result.andThen_ok, List.map_toArray, List.map_cons, List.map_nil, hs, hx, hrun]
    exact hK _ _ h
/-- a row of int8s of one's own, with more room behind it -/
def AC (w : World) (g N c : Nat) (A : List Int) : Prop := A.length = N ∧ N ≤ c ∧ w.ownsRow g 30 1 (.slice (some ⟨g, 0, none⟩) N c) N (nums .i8 A)
theorem AC.len {w : World} {g N c : Nat} {A : List Int} (h : AC w g N c A) : A.length = N := h.1
theorem AC.later {w w' : World} {g N c : Nat} {A : List Int} (h : AC w g N c A) (hb : Below w.heap.size w w') : AC w' g N c A := ⟨h.1, h.2.1, own_keep h.2.2 hb⟩
theorem AC.cell {w : World} {g N c : Nat} {A : List Int} (h : AC w g N c A) (j : Nat) (hj : j < N) : w.cell? ⟨g, j, none⟩ = some (.int .i8 (A.getD j 0)) := by
  rw [h.2.2.cellAt j (by omega), nums_at _ _ _ (by rw [h.1]; exact hj)]
theorem AC.frozen {w : World} {g N c : Nat} {A : List Int} (h : AC w g N c A) (j : Nat) : w.frozen? ⟨g, j, none⟩ = false := World.ownsRow.frozenAt h.2.2 j
theorem AC.set {w : World} {g N c : Nat} {A : List Int} (h : AC w g N c A) (j : Nat) (x : Int) : AC (w.setCell ⟨g, j, none⟩ (.int .i8 x)) g N c (A.set j x) := by
  have := (World.ownsRow.stored h.2.2 j (.int .i8 x)).1
  rw [nums_set] at this
  exact ⟨by rw [List.length_set]; exact h.1, h.2.1, this⟩
theorem AC.rk {w : World} {g N c : Nat} {A : List Int} (h : AC w g N c A) : RK .i8 w (.slice (some ⟨g, 0, none⟩) N c) A := by
  obtain ⟨rfl, -, h⟩ := h
  exact RK.of_own h
theorem AC.lt {w : World} {g N c : Nat} {A : List Int} (h : AC w g N c A) : g < w.heap.size := (own_lt h.2.2 rfl).2
theorem AC.zer {w : World} {g N c : Nat} {A : List Int} (h : AC w g N c A) : zerW g N w = zer A := by
  classical
  have e : A = (List.range N).map (fun j => A.getD j 0) := by
    apply List.ext_getElem
    · simp [h.1]
    · intro i h1 h2
      simp [List.getD_eq_getElem?_getD, List.getElem?_eq_getElem h1]
  unfold Go.Proofs.Ytilhamnibdjfaaa.zer zerW
  conv => rhs; rw [e]
  rw [List.countP_map]
  apply List.countP_congr
  intro j hj
  rw [h.cell j (by simpa using hj)]
  simp
theorem AC.of_own {w : World} {base : Nat} {v : Value} {A : List Int} (h : w.ownsRow base 30 1 v A.length (nums .i8 A)) (hv : v ≠ .slice none 0 0) : ∃ g c, v = .slice (some ⟨g, 0, none⟩) A.length c ∧ base ≤ g ∧ AC w g A.length c A := by
  rcases h.2 with ⟨e, -⟩ | ⟨g, cap, cur, e, hb, hg, hc, hr⟩
  · exact absurd e hv
  · subst e
    exact ⟨g, cap, rfl, hb, rfl, hc, h.1, .inr ⟨g, cap, cur, rfl, Nat.le_refl _, hg, hc, hr⟩⟩
/-- a new row of int8s, as a copy by append of the first m of a row that can be read -/
theorem run_apart {w : World} {a : Option Addr} {c c2 m : Nat} {A : List Int} (hr : RK .i8 w (.slice a A.length c) A) (hm : m ≤ A.length) (hl : m ≤ 100000) (h2 : a = none → c2 = 0) :
    ∃ g cap w', (Builtin.append_ #[23, 23] 23 #[.slice (some ⟨w.heap.size, 0, none⟩) 0 0, .slice a m c2]).run Try.prog (w.alloc (.cells #[] 30)) = .ok (.slice (some ⟨g, 0, none⟩) m cap) w' ∧ w.heap.size ≤ g ∧ AC w' g m cap (A.take m) ∧ Below w.heap.size w w' := by
  obtain ⟨i0, hi0, hz0, hz1, hz2⟩ := i8_parts
  have b1 := bel_alloc w (.cells #[] 30)
  have own0 : (w.alloc (.cells #[] 30)).ownsRow w.heap.size 30 1 (.slice (some ⟨w.heap.size, 0, none⟩) 0 0) 0 [] := World.ownsRow_lit _ #[] 0 (Nat.le_refl _) (by decide) rfl
  obtain ⟨v', w', h1, h3, h4, h5⟩ := run_nums .i8 Try.underlying23 hi0 hz0 hz1 hz2 (n := 0) own0 (hr.later b1) hm (by omega) (by omega) b1.size h2
  rw [List.nil_append, Nat.zero_add] at h3
  have hlt : (A.take m).length = m := by rw [List.length_take]; omega
  have hv : v' ≠ .slice none 0 0 := fun e => by
    subst e
    rcases h5 with h5 | h5 <;> simp [Value.ownBlock] at h5
  obtain ⟨g, cap, rfl, hg, hac⟩ := AC.of_own (A := A.take m) (by rw [hlt]; exact h3) hv
  rw [hlt] at h1 hac
  exact ⟨g, cap, w', h1, hg, hac, b1.trans (below_grown h4 (fun k hk => by simp only [Value.ownBlock, Option.some.injEq] at hk; omega) b1.size)⟩
end Go.Proofs.Ytilhamnibdjfaaa
