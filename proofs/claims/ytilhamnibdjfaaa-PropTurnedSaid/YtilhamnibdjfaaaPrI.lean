/-
  What the document's Unit and Eval answer: the same.
-/
import Derived.Test.YtilhamnibdjfaaaPrH
namespace Go.Proofs.Ytilhamnibdjfaaa
open Go.RowKit

/-- what the document's Unit answers -/
def UnitR (L : List (List Int)) (A : List Int) (w : World) (e : Ending) (w' : World) : Prop :=
  ∃ g c, e = .returned (.tuple #[.slice (some ⟨g, 0, none⟩) A.length c, .bool (unit L A).2]) ∧ w.heap.size ≤ g ∧ AC w' g A.length c (unit L A).1 ∧ Below w.heap.size w w'
theorem next_one {w : World} {base : Nat} {v : Value} {x : Int} (h : w.ownsRow base 3 1 v (lst x).length (nums .i64 (lst x))) (hx : x ≠ 0) : ∃ g c, v = .slice (some ⟨g, 0, none⟩) 1 c ∧ w.cell? ⟨g, 0, none⟩ = some (.int .i64 x) := by
  have e : lst x = [x] := by unfold lst; rw [if_neg hx]
  rw [e] at h
  obtain ⟨g, c, rfl⟩ := own_some h (Nat.zero_lt_one)
  have hc := h.cellAt 0 (Nat.zero_lt_one)
  rw [nums_at _ _ _ (Nat.zero_lt_one)] at hc
  exact ⟨g, c, rfl, hc⟩
set_option maxRecDepth 100000 in
set_option maxHeartbeats 8000000 in
theorem runit_any (L : List (List Int)) (A0 : List Int) (v u : Value) (w : World) (hv : RR w v L) (hu : RK .i8 w u A0) (hl : L.length ≤ 1000) (hA : A0.length ≤ 1000) (hf : ∀ c ∈ L, Fit c ∧ c.length ≤ 1000) :
    Calls Try.prog 15 #[v, u] w (UnitR L A0 w) := by
  have NX := mkHid (fun A v u w hv hu hA => rnext_any L A v u w hv hu hl hA hf)
  have HV := mkHid hv
  have NN : Hid (∀ A, L.findSome? (ask A) = none → unit L A = (A, false)) := fun A h => unit_none h
  have N0 : Hid (∀ A, L.findSome? (ask A) = some 0 → unit L A = (A, true)) := fun A h => unit_conf h
  have NS : Hid (∀ A x, L.findSome? (ask A) = some x → x ≠ 0 → unit L (put A x) = unit L A ∧ wh A x = 0) := fun A x h hx => ⟨(unit_step h hx).symm, findSome_open h hx⟩
  obtain ⟨a0, c0, rfl, hc0, h00, hr0⟩ := hu
  have hr00 : RK .i8 w (.slice a0 A0.length c0) A0 := ⟨a0, c0, rfl, hc0, h00, hr0⟩
  obtain ⟨N, hN0⟩ : ∃ N, A0.length = N := ⟨_, rfl⟩
  have HN0 := mkHid hN0
  obtain ⟨g, cap, w2, hrun, hg, ha2, hb2⟩ := run_apart hr00 (m := A0.length) (Nat.le_refl _) (by omega) h00
  rw [List.take_of_length_le (Nat.le_refl _)] at ha2
  rw [hN0] at hrun ha2
  have HA := mkHid ha2
  have HB := mkHid hb2
  have HFIN : Hid (∀ A w4 b, unit L A = (A, b) → unit L A = unit L A0 → AC w4 g N cap A → Below w.heap.size w w4 → UnitR L A0 w (.returned (.tuple #[.slice (some ⟨g, 0, none⟩) N cap, .bool b])) w4) := fun A w4 b h1 h2 h3 h4 => by
    rw [h1] at h2
    refine ⟨g, cap, ?_, hg, ?_, h4⟩
    · rw [hN0, ← h2]
    · rw [hN0, ← h2]; exact h3
  have hcap : N ≤ cap := ha2.2.1
  have hN : N ≤ 1000 := by omega
  clear ha2 hb2 hr00 hr0 hN0 hf hv
  rw [HN0.out] at hc0 hA ⊢
  go_enter Try.func15, Try.ntmps15
  go_wp2_with (at_builtin
               refine wpList_run rfl (.tmp 9) (.tmp 10) rfl rfl (by rfl) (by rfl) hrun ?_)
  clear hrun
  go_loopw [7] (fun _ w' => ∃ A, Hid (unit L A = unit L A0) ∧ Hid (AC w' g N cap A) ∧ Hid (Below w.heap.size w w')) (fun _ w' => zerW g N w')
  case atStart => exact ⟨A0, mkHid rfl, HA, HB⟩
  case round =>
    clear HA HB
    obtain ⟨A, HU, HA, HB⟩ := hrel
    have hAl := HA.out.len
    have N1 := mkHid (fun w hv hu => NX.out A v (.slice (some ⟨g, 0, none⟩) N cap) w hv hu (by rw [hAl]; exact hN))
    have n1 := NN.out A
    have n2 := N0.out A
    have n3 := NS.out A
    have M1 := mkHid n1
    have M2 := mkHid n2
    have M3 := mkHid n3
    clear n1 n2 n3 NN N0 NS NX hAl
    generalize L.findSome? (ask A) = q at *
    match q with
    | none =>
      have HE := mkHid (M1.out rfl)
      clear M1 M2 M3
      go_wp2_with (go_at_call 23; ((with_reducible refine (N1.out _ (HV.out.later HB.out) HA.out.rk).mono ?_)); rintro e w4 ⟨v4, rfl, -, hb4⟩)
      go_ret2
      exact HFIN.out A _ false HE.out HU.out (HA.out.later hb4) (bon HB.out hb4)
    | some x =>
      by_cases hx : x = 0
      · subst hx
        have HE := mkHid (M2.out rfl)
        clear M1 M2 M3
        go_wp2_with (go_at_call 23; ((with_reducible refine (N1.out _ (HV.out.later HB.out) HA.out.rk).mono ?_)); rintro e w4 ⟨v4, rfl, ho4, hb4⟩; have hq4 := ho4 0 rfl; clear ho4; obtain ⟨ao, co, rfl, hco, hno⟩ := own_val hq4; clear hno; rw [show (lst 0).length = 0 from rfl] at *)
        go_ret2
        exact HFIN.out A _ true HE.out HU.out (HA.out.later hb4) (bon HB.out hb4)
      · obtain ⟨e1, h1⟩ := M3.out x rfl hx
        have E1 := mkHid e1
        have H1 := mkHid h1
        have hz := wh_zero (A := A) (x := x) (by rw [h1]; decide)
        rw [HA.out.len] at hz
        obtain ⟨y, hy⟩ : ∃ y, x.natAbs = y := ⟨_, rfl⟩
        rw [hy] at hz
        have hy2 : (y : Int) < (N : Int) := by omega
        have hyN := hz.2.2
        have HX := mkHid hx
        have HP : Hid (put A x = A.set y (if x < 0 then -1 else 1)) := by unfold put; rw [hy]; exact mkHid rfl
        clear M1 M2 M3 hz h1 e1
        by_cases hx0 : 0 < x
        · obtain rfl : x = (y : Int) := by omega
          have HP2 : Hid (put A (y : Int) = A.set y 1) := by rw [HP.out, if_neg (by omega)]; exact mkHid rfl
          clear HP hy hx
          go_wp2_with (go_at_call 23; ((with_reducible refine (N1.out _ (HV.out.later HB.out) HA.out.rk).mono ?_)); rintro e w4 ⟨v4, rfl, ho4, hb4⟩; obtain ⟨ao, co, rfl, hc4⟩ := next_one (ho4 _ rfl) HX.out; clear ho4; have HA4 := mkHid (HA.out.later hb4); have c5 := HA4.out.cell y hyN; have c6 := HA4.out.frozen y; have HB4 := mkHid (bon HB.out hb4); clear hb4; dsimp only [Option.isSome])
          go_roundw
          case rel => exact ⟨put A y, mkHid (by rw [E1.out]; exact HU.out), mkHid (by rw [HP2.out]; exact HA4.out.set y 1), mkHid (Below.setCell HB4.out hg _)⟩
          case measure =>
            have h2 := HA4.out.set y 1
            rw [← HP2.out] at h2
            rw [h2.zer, HA.out.zer]
            have := zer_put H1.out
            omega
        · obtain rfl : x = -(y : Int) := by omega
          have HP2 : Hid (put A (-(y : Int)) = A.set y (-1)) := by rw [HP.out, if_pos (by omega)]; exact mkHid rfl
          clear HP hy hx
          go_wp2_with (go_at_call 23; ((with_reducible refine (N1.out _ (HV.out.later HB.out) HA.out.rk).mono ?_)); rintro e w4 ⟨v4, rfl, ho4, hb4⟩; obtain ⟨ao, co, rfl, hc4⟩ := next_one (ho4 _ rfl) HX.out; clear ho4; have HA4 := mkHid (HA.out.later hb4); have c5 := HA4.out.cell y hyN; have c6 := HA4.out.frozen y; have HB4 := mkHid (bon HB.out hb4); clear hb4; dsimp only [Option.isSome])
          go_roundw
          case rel => exact ⟨put A (-(y : Int)), mkHid (by rw [E1.out]; exact HU.out), mkHid (by rw [HP2.out]; exact HA4.out.set y (-1)), mkHid (Below.setCell HB4.out hg _)⟩
          case measure =>
            have h2 := HA4.out.set y (-1)
            rw [← HP2.out] at h2
            rw [h2.zer, HA.out.zer]
            have := zer_put H1.out
            omega
/-- what is left of all clauses, when the first k have neither been without true and open literals -/
def evGo (A : List Int) : Int → List (List Int) → Int
  | o, [] => o
  | o, c :: L => if tr A c = true then evGo A o L else if opn A c = [] then -1 else evGo A 0 L
theorem opn_nil {A c : List Int} (h : tr A c = false) : opn A c = [] ↔ ∀ x ∈ c, wh A x = -1 := by
  constructor
  · intro e x hx
    rcases wh_cases A x with h1 | h1 | h1
    · rw [tr_iff.2 ⟨x, hx, h1⟩] at h; cases h
    · have : x ∈ opn A c := opn_mem.2 (.inr ⟨hx, h1⟩)
      rw [e] at this; cases this
    · exact h1
  · intro h1
    apply List.eq_nil_iff_forall_not_mem.2
    intro x hx
    rcases opn_mem.1 hx with hx | ⟨hx, e⟩
    · cases hx
    · have := h1 x hx; omega
theorem evGo_spec {A : List Int} : ∀ (L : List (List Int)) (o : Int), o = 0 ∨ o = 1 → evGo A o L = if (∃ c ∈ L, ∀ x ∈ c, wh A x = -1) then -1 else if (o = 1 ∧ ∀ c ∈ L, ∃ x ∈ c, wh A x = 1) then 1 else 0 := by
  intro L
  induction L with
  | nil => intro o ho; rcases ho with rfl | rfl <;> simp [evGo]
  | cons c L ih =>
    intro o ho
    unfold evGo
    by_cases ht : tr A c = true
    · rw [if_pos ht, ih o ho]
      have h1 : ∃ x ∈ c, wh A x = 1 := tr_iff.1 ht
      have h2 : ¬ ∀ x ∈ c, wh A x = -1 := fun h => by obtain ⟨x, hx, e⟩ := h1; have := h x hx; omega
      simp only [List.mem_cons, exists_eq_or_imp, forall_eq_or_imp, h1, h2, false_or, true_and]
    · rw [if_neg ht]
      have ht' : tr A c = false := by simpa using ht
      have h1 : ¬ ∃ x ∈ c, wh A x = 1 := fun h => ht (tr_iff.2 h)
      by_cases hn : opn A c = []
      · rw [if_pos hn]
        have h2 := (opn_nil ht').1 hn
        rw [if_pos ⟨c, List.mem_cons_self, h2⟩]
      · rw [if_neg hn, ih 0 (.inl rfl)]
        have h2 : ¬ ∀ x ∈ c, wh A x = -1 := fun h => hn ((opn_nil ht').2 h)
        simp only [List.mem_cons, exists_eq_or_imp, forall_eq_or_imp, h1, h2, false_or, false_and, and_false]
        simp
theorem evl_go (L : List (List Int)) (A : List Int) : evl L A = evGo A 1 L := by
  rw [evGo_spec L 1 (.inr rfl)]
  obtain ⟨h1, h2, h3, h4⟩ := evl_spec L A
  by_cases hd : ∃ c ∈ L, ∀ x ∈ c, wh A x = -1
  · rw [if_pos hd]; exact h2.2 hd
  · rw [if_neg hd]
    by_cases ht : ∀ c ∈ L, ∃ x ∈ c, wh A x = 1
    · rw [if_pos ⟨rfl, ht⟩]; exact h1.2 ht
    · rw [if_neg (fun h => ht h.2)]
      have e1 : evl L A ≠ -1 := fun h => hd (h2.1 h)
      have e2 : evl L A ≠ 1 := fun h => ht (h1.1 h)
      omega
set_option maxRecDepth 100000 in
set_option maxHeartbeats 4000000 in
theorem reval_any (L : List (List Int)) (A : List Int) (v u : Value) (w : World) (hv : RR w v L) (hu : RK .i8 w u A) (hl : L.length ≤ 1000) (hA : A.length ≤ 1000) (hf : ∀ c ∈ L, Fit c ∧ c.length ≤ 1000) :
    Calls Try.prog 18 #[v, u] w (RetV (.int .i8 (evl L A)) w) := by
  have OP := mkHid (fun R v w hv hu hl hf => ropens_any R A v u w hv hu hl hA hf)
  have HO := mkHid (fun R v w hv hu hl hf => rholds_any R A v u w hv hu hl hA hf)
  have HF : Hid (∀ k, k < L.length → Fit (L.getD k []) ∧ (L.getD k []).length ≤ 1000) := fun k hk => by
    have e : L.getD k [] = L[k] := by rw [List.getD_eq_getElem?_getD, List.getElem?_eq_getElem hk]; rfl
    rw [e]; exact hf _ (List.getElem_mem _)
  obtain ⟨a, c, rfl, hc, -, hr⟩ := hv
  have HR := mkHid hr
  have HU := mkHid hu
  obtain ⟨J, J0, JE, JC⟩ : ∃ J : Int → Nat → Prop, J 1 0 ∧ Hid (∀ k o, k = L.length → J o k → evl L A = o) ∧ Hid (∀ k o, k < L.length → J o k → (tr A (L.getD k []) = true → J o (k + 1)) ∧ (tr A (L.getD k []) = false → opn A (L.getD k []) = [] → evl L A = -1) ∧ (tr A (L.getD k []) = false → opn A (L.getD k []) ≠ [] → J 0 (k + 1))) := by
    refine ⟨fun o k => evl L A = evGo A o (L.drop k), evl_go L A, fun k o h e => by rw [e, h, List.drop_length]; rfl, fun k o h e => ?_⟩
    have e2 : L.drop k = L.getD k [] :: L.drop (k + 1) := by rw [List.drop_eq_getElem_cons h, List.getD_eq_getElem?_getD, List.getElem?_eq_getElem h]; rfl
    have e : evl L A = evGo A o (L.drop k) := e
    rw [e2] at e
    unfold evGo at e
    dsimp only
    refine ⟨fun h1 => by rw [e, if_pos h1], fun h1 h2 => by rw [e, if_neg (by rw [h1]; simp), if_pos h2], fun h1 h2 => by rw [e, if_neg (by rw [h1]; simp), if_neg h2]⟩
  clear hr hf hu
  generalize evl L A = res at *
  generalize L.length = n at *
  obtain ⟨f, hfd⟩ : ∃ f : Nat → List Int, f = fun j => L.getD j [] := ⟨_, rfl⟩
  have ef : ∀ j, L.getD j [] = f j := fun j => by rw [hfd]
  simp only [ef] at *
  clear ef hfd
  go_enter Try.func18, Try.ntmps18
  go_wp2
  go_loopw [5, 6] (fun q i w' => ∃ (k : Nat) (x o : Int), k ≤ n ∧ i = .int .i64 x ∧ x = k ∧ q = .int .i8 o ∧ Hid (J o k) ∧ Hid (Below w.heap.size w w')) (fun _ i _ => (n - intOf i).toNat)
  case atStart => exact ⟨0, 0, 1, Nat.zero_le _, rfl, rfl, rfl, J0, mkHid (Below.refl _ _)⟩
  case round =>
    obtain ⟨k, x, o, hk, rfl, hxk, rfl, HJ, HB⟩ := hrel
    obtain rfl : x = (k : Int) := hxk
    clear J0
    by_cases hlt : k < n
    · obtain ⟨b, of, r, rfl, e1, hrk⟩ := HR.out k hlt
      obtain ⟨f1, f2⟩ := HF.out k hlt
      obtain ⟨c1, c2, c3⟩ := JC.out k o hlt HJ.out
      have C1 := mkHid c1
      have C2 := mkHid c2
      have C3 := mkHid c3
      have E1 := mkHid e1
      have g1 := cell_later HB.out e1
      have HK := mkHid hrk
      have W1 := mkHid (fun wx hv hu => OP.out (f k) r wx hv hu f2 f1)
      have W2 := mkHid (fun wx hv hu => HO.out (f k) r wx hv hu f2 f1)
      have hlt' : (k : Int) < (n : Int) := by omega
      clear e1 hrk HR HF OP HO f1 c1 c2 c3 JE JC
      have OL : Hid ((opn A (f k)).length ≤ 100000) := by
        have h9 : (opn A (f k)).length ≤ 0 + (f k).length := opn_len (out := [])
        exact Nat.le_trans h9 (by omega)
      clear f2
      generalize tr A (f k) = tt at *
      generalize opn A (f k) = oo at *
      generalize f k = c0 at *
      cases tt with
      | true =>
        have HN := mkHid (C1.out rfl)
        clear C1 C2 C3 OL
        go_wp2_with (go_at_call 20; ((with_reducible refine (W2.out _ (HK.out.later HB.out) (HU.out.later HB.out)).mono ?_)); rintro e w5 ⟨rfl, hb5⟩)
        go_roundw
        case rel => exact ⟨k + 1, _, _, by omega, rfl, by omega, rfl, HN, mkHid (bon HB.out hb5)⟩
        case measure => simp [intOf]; omega
      | false =>
        by_cases hoo : oo = []
        · subst hoo
          have HN := mkHid (C2.out rfl rfl)
          clear C1 C2 C3 OL
          go_wp2_with (first
            | (revert HB5; intro HB5; (go_at_call 25; ((with_reducible refine (W1.out _ (HK.out.later HB5.out) (HU.out.later HB5.out)).mono ?_)); rintro e w4 ⟨o4, rfl, ho4, hb4⟩; obtain ⟨ao, co, rfl, hco, hno⟩ := own_val ho4; clear hno; dsimp only [List.length_nil] at *))
            | (go_at_call 20; ((with_reducible refine (W2.out _ (HK.out.later HB.out) (HU.out.later HB.out)).mono ?_)); rintro e w5 ⟨rfl, hb5⟩; have HB5 := mkHid (bon HB.out hb5); have g5 := cell_later HB5.out E1.out))
          go_ret
          exact ⟨by rw [HN.out]; rfl, bon HB5.out hb4⟩
        · have HN := mkHid (C3.out rfl hoo)
          have hol := OL.out
          have hz : ¬ oo.length = 0 := fun e => hoo (List.length_eq_zero_iff.1 e)
          have hz2 : (((oo.length : Nat) : Int) == 0) = false := by
            rw [beq_eq_false_iff_ne]; omega
          clear C1 C2 C3 OL hoo
          generalize hln : oo.length = ln at *
          have HLN := mkHid hln
          clear hln
          go_wp2_with (first
            | (revert HB5; intro HB5; (go_at_call 25; ((with_reducible refine (W1.out _ (HK.out.later HB5.out) (HU.out.later HB5.out)).mono ?_)); rintro e w4 ⟨o4, rfl, ho4, hb4⟩; obtain ⟨ao, co, rfl, hco, hno⟩ := own_val ho4; clear hno ho4))
            | (go_at_call 20; ((with_reducible refine (W2.out _ (HK.out.later HB.out) (HU.out.later HB.out)).mono ?_)); rintro e w5 ⟨rfl, hb5⟩; have HB5 := mkHid (bon HB.out hb5); have g5 := cell_later HB5.out E1.out))
          go_roundw
          case rel => exact ⟨k + 1, _, _, by omega, rfl, by omega, rfl, HN, mkHid (bon HB5.out hb4)⟩
          case measure => simp [intOf]; omega
    · have HN := mkHid (JE.out k o (by omega) HJ.out)
      have hlt' : ¬ (k : Int) < (n : Int) := by omega
      clear JC JE HR HF OP HO
      go_wp2
      go_ret
      exact ⟨by rw [HN.out]; rfl, HB.out⟩
end Go.Proofs.Ytilhamnibdjfaaa
