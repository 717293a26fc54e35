/-
  What package prop's 'assume' does, and what 'Unit' answers.
-/
import Derived.Test.YtilhamnibdjfaaaPrD
namespace Go.Proofs.Ytilhamnibdjfaaa
open Go.RowKit

/-- a row of int8s of one's own, in block g -/
def AR (w : World) (g N : Nat) (A : List Int) : Prop := A.length = N ∧ w.ownsRow g 30 1 (.slice (some ⟨g, 0, none⟩) N N) N (nums .i8 A)
theorem AR.later {w w' : World} {g N : Nat} {A : List Int} (h : AR w g N A) (hb : Below w.heap.size w w') : AR w' g N A := ⟨h.1, own_keep h.2 hb⟩
theorem AR.cell {w : World} {g N : Nat} {A : List Int} (h : AR w g N A) (j : Nat) (hj : j < N) : w.cell? ⟨g, j, none⟩ = some (.int .i8 (A.getD j 0)) := by
  rw [h.2.cellAt j (by omega), nums_at _ _ _ (by rw [h.1]; exact hj)]
theorem AR.frozen {w : World} {g N : Nat} {A : List Int} (h : AR w g N A) (j : Nat) : w.frozen? ⟨g, j, none⟩ = false := World.ownsRow.frozenAt h.2 j
theorem AR.set {w : World} {g N : Nat} {A : List Int} (h : AR w g N A) (j : Nat) (x : Int) : AR (w.setCell ⟨g, j, none⟩ (.int .i8 x)) g N (A.set j x) := by
  have := (World.ownsRow.stored h.2 j (.int .i8 x)).1
  rw [nums_set] at this
  exact ⟨by rw [List.length_set]; exact h.1, this⟩
theorem AR.rk {w : World} {g N : Nat} {A : List Int} (h : AR w g N A) : RK .i8 w (.slice (some ⟨g, 0, none⟩) N N) A := by
  obtain ⟨rfl, h⟩ := h
  exact RK.of_own h
theorem AR.lt {w : World} {g N : Nat} {A : List Int} (h : AR w g N A) : g < w.heap.size := (own_lt h.2 rfl).2
theorem set_set (A : List Int) (i : Nat) (x y : Int) : (A.set i x).set i y = A.set i y := by simp
set_option maxRecDepth 100000 in
set_option maxHeartbeats 4000000 in
theorem assume_any (g N : Nat) (A : List Int) (x : Int) (w : World) (hu : AR w g N A) (hN : x.natAbs < N) (h1 : -9223372036854775808 < x) (h2 : x ≤ 9223372036854775807) :
    Calls Try.prog 22 #[.slice (some ⟨g, 0, none⟩) N N, .int .i64 x] w fun e w' => e = .returned (.tuple #[]) ∧ AR w' g N (put A x) ∧ Below g w w' := by
  have V := mkHid (fun w => variable_any x w (by omega) h2)
  obtain ⟨y, hy⟩ : ∃ y, x.natAbs = y := ⟨_, rfl⟩
  have hv : vr x = (y : Int) := by unfold vr; rw [if_neg (by omega)]; omega
  have hp : put A x = A.set y (if x < 0 then -1 else 1) := by unfold put; rw [hy]
  rw [hv] at V
  rw [hp]
  rw [hy] at hN
  have HU := mkHid hu
  have hy2 : (y : Int) < (N : Int) := by omega
  clear hv hp hu
  by_cases hx0 : x < 0
  · rw [if_pos hx0]
    clear hy
    go_enter Try.func22, Try.ntmps22
    go_wp2_with (first
      | (revert HU2; intro HU2; (go_at_call 28; ((with_reducible refine (V.out _).mono ?_)); rintro e w5 ⟨rfl, hb5⟩; have HU3 := mkHid (HU2.out.later hb5); have c5 := HU3.out.cell y hN; have c6 := HU3.out.frozen y))
      | (go_at_call 28; ((with_reducible refine (V.out _).mono ?_)); rintro e w4 ⟨rfl, hb4⟩; have HU1 := mkHid (HU.out.later hb4); have c1 := HU1.out.cell y hN; have c2 := HU1.out.frozen y; have HU2 := mkHid (HU1.out.set y 1)))
    go_end0
    refine ⟨rfl, ?_, ?_⟩
    · have := HU3.out.set y (-1)
      rwa [set_set] at this
    · exact Below.setCell (Below.trans (Below.setCell (hb4.mono (Nat.le_of_lt HU.out.lt)) (Nat.le_refl _) _) (hb5.mono (Nat.le_of_lt HU2.out.lt))) (Nat.le_refl _) _
  · rw [if_neg hx0]
    clear hy
    go_enter Try.func22, Try.ntmps22
    go_wp2_with (go_at_call 28; ((with_reducible refine (V.out _).mono ?_)); rintro e w4 ⟨rfl, hb4⟩; have HU1 := mkHid (HU.out.later hb4); have c1 := HU1.out.cell y hN; have c2 := HU1.out.frozen y)
    go_end0
    exact ⟨rfl, HU1.out.set y 1, Below.setCell (hb4.mono (Nat.le_of_lt HU.out.lt)) (Nat.le_refl _) _⟩
theorem made_i8 (n : Nat) (h : n ≤ 100000) : ∃ cs : Array Value, cs.size = n * 1 ∧ cs.toList = nums .i8 (List.replicate n 0) ∧ ∀ w : World, (Instr.makeSlice 23 (.int .i64 (n : Int)) (.int .i64 (n : Int))).run Try.prog w = .ok (.slice (some ⟨w.heap.size, 0, none⟩) n n) (w.alloc (.cells cs 30)) := by
  obtain ⟨i0, hi, hz0, hz1, hz2⟩ := i8_parts
  refine ⟨madeCells #[.int .i8 0] (n * 1), size_madeCells _ _, ?_, fun w => ?_⟩
  · apply List.ext_getElem?
    intro j
    by_cases hj : j < n
    · simp [madeCells, nums, hj, Nat.mod_one]
    · simp [madeCells, nums, hj]
  · have hr := run_make (P := Try.prog) w 23 30 i0 _ Try.underlying23 hi hz0 .i64 .i64 (n : Int) (n : Int) (by omega) (Int.le_refl _) (by rw [hz2]; omega) (by omega)
    rw [hr, hz1, Int.toNat_natCast]
    rfl
theorem AR.made {w : World} {n : Nat} {cs : Array Value} (hn : n ≤ 100000) (h1 : cs.size = n * 1) (h2 : cs.toList = nums .i8 (List.replicate n 0)) : AR (w.alloc (.cells cs 30)) w.heap.size n (List.replicate n 0) := by
  refine ⟨by simp, ?_⟩
  have := World.ownsRow_lit (base := w.heap.size) (size := 1) (e := 30) w cs n (Nat.le_refl _) (by unfold maxLen; omega) h1
  rwa [h2] at this
/-- all of a row copied into a new one -/
theorem copied (A : List Int) (a : Option Addr) (c n g : Nat) (w : World) (B : List Int) (hA : A.length = n) (hr : RK .i8 w (.slice a n c) A) (hg : AR w g n B) :
    ∃ w', (∀ ty, (Builtin.copy_ #[23, 23] ty #[.slice (some ⟨g, 0, none⟩) n n, .slice a n c]).run Try.prog w = .ok (goInt n) w') ∧ AR w' g n A ∧ Below g w w' := by
  obtain ⟨i0, hi, hz0, hz1, hz2⟩ := i8_parts
  subst hA
  cases a with
  | none =>
    obtain ⟨hn, rfl⟩ := hr.none_nil
    have hB : B = [] := by have := hg.1; rw [hn] at this; exact List.length_eq_zero_iff.1 this
    subst hB
    subst hn
    exact ⟨w, fun ty => run_copy_nil Try.prog w _ _ ty 30 _ _ _ Try.underlying23 (by rw [hi]; rfl), hg, Below.refl _ _⟩
  | some ad =>
    obtain ⟨hBl, hown⟩ := hg
    have hl : (nums .i8 A).length = A.length := nums_len _ _
    rcases hown.2 with ⟨h', _⟩ | ⟨g', cap', cur, h', hb, hg, hnc, hcm, hcs, htake⟩
    · simp at h'
    · simp only [Value.slice.injEq, Option.some.injEq, Addr.mk.injEq, and_true, true_and] at h'
      obtain ⟨rfl, rfl⟩ := h'
      have hall : ∀ j u, (nums .i8 A)[j]? = some u → w.cell? (ad.add j) = some u := by
        have := hr.reads A.length (Nat.le_refl _)
        rwa [List.take_of_length_le (Nat.le_refl _)] at this
      refine ⟨w.setRow g (cur.toList.take 0 ++ nums .i8 A ++ cur.toList.drop (0 + (nums .i8 A).length)).toArray, fun ty => ?_, ?_, ?_⟩
      · have := run_copy_row Try.prog w 23 23 ty 30 g 0 A.length A.length ad A.length c cur 30 (nums .i8 A) Try.underlying23 (by rw [hi]; simp [hz1]) hg (by rw [hl]; simp) hall (by rw [hl]; omega) (nums_one _ _)
        rw [hl] at this
        rw [this, hl]
      · refine ⟨rfl, by rw [hl, Nat.mul_one], .inr ⟨g, A.length, _, rfl, Nat.le_refl _, setRow_heap w g cur _ _ _ hg, Nat.le_refl _, hcm, ?_, ?_⟩⟩
        · simp [hl, hcs]
        · simp [hl]
      · refine ⟨rfl, rfl, rfl, by simp [World.setRow], fun k hk => ?_⟩
        simp only [World.setRow, Array.getElem?_modify]
        rw [if_neg (by omega)]
/-- how many of a row are 0 -/
noncomputable def zerW (g N : Nat) (w : World) : Nat := open Classical in (List.range N).countP (fun j => decide (w.cell? ⟨g, j, none⟩ = some (.int .i8 0)))
theorem zerW_eq {w : World} {g N : Nat} {A : List Int} (h : AR w g N A) : zerW g N w = zer A := by
  classical
  have e : A = (List.range N).map (fun j => A.getD j 0) := by
    apply List.ext_getElem
    · simp [h.1]
    · intro i h1 h2
      simp [List.getD_eq_getElem?_getD, List.getElem?_eq_getElem h1]
  unfold zer zerW
  conv => rhs; rw [e]
  rw [List.countP_map]
  apply List.countP_congr
  intro j hj
  rw [h.cell j (by simpa using hj)]
  simp
/-- what Unit answers -/
def UnitP (L : List (List Int)) (A : List Int) (w : World) (e : Ending) (w' : World) : Prop :=
  ∃ g, e = .returned (.tuple #[.slice (some ⟨g, 0, none⟩) A.length A.length, .bool (unit L A).2]) ∧ w.heap.size ≤ g ∧ AR w' g A.length (unit L A).1 ∧ Below w.heap.size w w'
theorem findSome_last {L : List (List Int)} {A : List Int} (h : ∀ i, i < L.length → ask A (L.getD i []) = none) : L.findSome? (ask A) = none := by
  rw [List.findSome?_eq_none_iff]
  intro c hc
  obtain ⟨i, hi, rfl⟩ := List.getElem_of_mem hc
  have := h i hi
  rwa [List.getD_eq_getElem?_getD, List.getElem?_eq_getElem hi] at this
theorem findSome_at {L : List (List Int)} {A : List Int} {k : Nat} {x : Int} (hk : k < L.length) (h : ∀ i, i < k → ask A (L.getD i []) = none) (e : ask A (L.getD k []) = some x) : L.findSome? (ask A) = some x := by
  rw [List.findSome?_eq_some_iff]
  have e' : L.getD k [] = L[k] := by rw [List.getD_eq_getElem?_getD, List.getElem?_eq_getElem hk]; rfl
  refine ⟨L.take k, L[k], L.drop (k + 1), ?_, by rw [← e']; exact e, fun c hc => ?_⟩
  · rw [← List.drop_eq_getElem_cons hk, List.take_append_drop]
  · obtain ⟨i, hi, rfl⟩ := List.getElem_of_mem hc
    have hi' : i < k := by simp at hi; omega
    have := h i hi'
    rw [List.getD_eq_getElem?_getD, List.getElem?_eq_getElem (by omega)] at this
    rw [List.getElem_take]
    exact this
/-- what holds at the label -/
def JU (L : List (List Int)) (A0 : List Int) (v u : Value) (g N : Nat) (w : World) (a' : Act) (w' : World) : Prop := ∃ A : List Int, unit L A = unit L A0 ∧ Hid (AR w' g N A) ∧ Hid (Below w.heap.size w w') ∧ ∃ (u2 u3 u4 u5 u7 u8 u9 u10 u11 u12 u13 u14 u15 u16 u17 u18 u19 u20 u21 u22 u23 u24 u25 u26 u27 u28 u29 u30 u31 u32 u33 u34 u35 u36 u37 u38 u39 u40 : Value), a' = { tmps := #[v, u, u2, u3, u4, u5, .slice (some ⟨g, 0, none⟩) N N, u7, u8, u9, u10, u11, u12, u13, u14, u15, u16, u17, u18, u19, u20, u21, u22, u23, u24, u25, u26, u27, u28, u29, u30, u31, u32, u33, u34, u35, u36, u37, u38, u39, u40], defers := [] }
set_option maxRecDepth 1000000 in
set_option maxHeartbeats 8000000 in
theorem unit_any (L : List (List Int)) (A0 : List Int) (v u : Value) (w : World) (hv : RR w v L) (hu : RK .i8 w u A0) (hl : L.length ≤ 1000) (hA : A0.length ≤ 1000) (hf : ∀ c ∈ L, Fit c ∧ c.length ≤ 1000) :
    Calls Try.prog 14 #[v, u] w (UnitP L A0 w) := by
  have AK := mkHid (fun R A v u w hv hu hl hA hf => asked_any R A v u w hv hu hl hA hf)
  have HF : Hid (∀ k, k < L.length → Fit (L.getD k []) ∧ (L.getD k []).length ≤ 1000) := fun k hk => by
    have e : L.getD k [] = L[k] := by rw [List.getD_eq_getElem?_getD, List.getElem?_eq_getElem hk]; rfl
    rw [e]; exact hf _ (List.getElem_mem _)
  obtain ⟨a, c, rfl, hc, -, hr⟩ := hv
  obtain ⟨a0, c0, rfl, hc0, h00, hr0⟩ := hu
  have hr00 : RK .i8 w (.slice a0 A0.length c0) A0 := ⟨a0, c0, rfl, hc0, h00, hr0⟩
  obtain ⟨N, hN0⟩ : ∃ N, A0.length = N := ⟨_, rfl⟩
  have HN0 := mkHid hN0
  obtain ⟨cs, k1, k2, hmk⟩ := made_i8 N (by omega)
  have hmk' := hmk w
  have b1 := bel_alloc w (.cells cs 30)
  rw [hN0] at hr00
  obtain ⟨w2, hcp, ha2, hb2⟩ := copied A0 a0 c0 N w.heap.size (w.alloc (.cells cs 30)) _ hN0 (hr00.later b1) (AR.made (by omega) k1 k2)
  have HA := mkHid ha2
  have HB : Hid (Below w.heap.size w w2) := b1.trans hb2
  have HR := mkHid hr
  have FA : Hid (∀ A k, A.length ≤ 1000 → k < L.length → (∀ i, i < k → ask A (L.getD i []) = none) → ∀ y, ask A (L.getD k []) = some y → (y = 0 → unit L A = (A, true)) ∧ (y ≠ 0 → unit L (put A y) = unit L A ∧ wh A y = 0 ∧ -9223372036854775808 < y ∧ y ≤ 9223372036854775807)) := fun A k hA1 hk hn y e => by
    have e1 := findSome_at hk hn e
    refine ⟨fun h => ?_, fun h => ?_⟩
    · subst h; exact unit_conf e1
    · have e2 := findSome_open e1 h
      have e3 := (wh_zero (A := A) (x := y) (by omega)).2.2
      exact ⟨(unit_step e1 h).symm, e2, by omega, by omega⟩
  have HFN : Hid (∀ A, (∀ i, i < L.length → ask A (L.getD i []) = none) → unit L A = (A, false)) := fun A h => unit_none (findSome_last h)
  have hg := Nat.le_refl w.heap.size
  have HFIN : Hid (∀ A w4 b, unit L A = (A, b) → unit L A = unit L A0 → AR w4 w.heap.size N A → Below w.heap.size w w4 → UnitP L A0 w (.returned (.tuple #[.slice (some ⟨w.heap.size, 0, none⟩) N N, .bool b])) w4) := fun A w4 b h1 h2 h3 h4 => by
    rw [h1] at h2
    refine ⟨w.heap.size, ?_, by omega, ?_, h4⟩
    · rw [hN0, ← h2]
    · rw [hN0, ← h2]; exact h3
  have hN : N ≤ 1000 := by omega
  clear ha2 hb2 hr hf hr00 hr0 hmk hN0 b1 k1 k2
  generalize L.length = n at *
  obtain ⟨f, hfd⟩ : ∃ f : Nat → List Int, f = fun j => L.getD j [] := ⟨_, rfl⟩
  have ef : ∀ j, L.getD j [] = f j := fun j => by rw [hfd]
  simp only [ef] at *
  clear ef hfd
  rw [HN0.out] at hc0 hA ⊢
  go_enter Try.func14, Try.ntmps14
  go_wp2
  refine wp_scope_jumps 0 (JU L A0 (.slice a n c) (.slice a0 N c0) w.heap.size N w) (fun _ w' => zerW w.heap.size N w') rfl ?_ ?_
  · obtain ⟨A, HU, HA⟩ : ∃ A, Hid (unit L A = unit L A0) ∧ Hid (AR w2 w.heap.size N A) := ⟨A0, rfl, HA.out⟩
    go_wp2
    go_step3
    go_wp2
    go_loopw [19] (fun i w' => ∃ (k : Nat) (x : Int), k ≤ n ∧ i = .int .i64 x ∧ x = k ∧ Hid (∀ i, i < k → ask A (f i) = none) ∧ Hid (AR w' w.heap.size N A) ∧ Hid (Below w.heap.size w w')) (fun i _ => (n - intOf i).toNat)
    case atStart => exact ⟨0, 0, Nat.zero_le _, rfl, rfl, fun i hi => absurd hi (Nat.not_lt_zero i), HA, HB⟩
    case round =>
      clear HA HB
      obtain ⟨k, x, hk, rfl, hxk, HN, HA, HB⟩ := hrel
      obtain rfl : x = (k : Int) := hxk
      by_cases hlt : k < n
      · obtain ⟨b, of, r, rfl, e1, hrk⟩ := HR.out k hlt
        obtain ⟨f1, f2⟩ := HF.out k hlt
        have g1 := cell_later HB.out e1
        have W1 := mkHid (fun wx hv hu => AK.out (f k) A r (.slice (some ⟨w.heap.size, 0, none⟩) N N) wx hv hu f2 (by rw [HA.out.1]; exact hN) f1)
        have HK := mkHid hrk
        have hlt' : (k : Int) < (n : Int) := by omega
        clear e1 hrk HR AK f1 f2
        have HX := mkHid (FA.out A k (by rw [HA.out.1]; exact hN) hlt HN.out)
        have HN1 : Hid (ask A (f k) = none → ∀ i, i < k + 1 → ask A (f i) = none) := fun h i hi => by
          rcases Nat.lt_or_ge i k with h9 | h9
          · exact HN.out i h9
          · obtain rfl : i = k := by omega
            exact h
        clear HN
        generalize ask A (f k) = q at *
        generalize f k = c0 at *
        match q with
        | none =>
          have HN2 := mkHid (HN1.out rfl)
          clear HN1 HX
          go_wp2_with (go_at_call 21; ((with_reducible refine (W1.out _ (HK.out.later HB.out) HA.out.rk).mono ?_)); rintro e w4 ⟨rfl, hb4⟩; dsimp only [askV])
          go_roundw
          case rel => exact ⟨k + 1, _, by omega, rfl, by omega, HN2, mkHid (HA.out.later hb4), mkHid (bon HB.out hb4)⟩
          case measure => simp [intOf]; omega
        | some y =>
          obtain ⟨hc0, hc1⟩ := HX.out y rfl
          have HC0 := mkHid hc0
          have HC1 := mkHid hc1
          clear hc0 hc1 HN1 HX
          by_cases hy : y = 0
          · subst hy
            have HE := mkHid (HC0.out rfl)
            clear HC0 HC1
            go_wp2_with (go_at_call 21; ((with_reducible refine (W1.out _ (HK.out.later HB.out) HA.out.rk).mono ?_)); rintro e w4 ⟨rfl, hb4⟩; dsimp only [askV])
            simp only [Exit.jump]
            go_ret2
            exact HFIN.out A w4 true HE.out HU.out (HA.out.later hb4) (bon HB.out hb4)
          · obtain ⟨e1, h1, h2, h3⟩ := HC1.out hy
            have E1 := mkHid e1
            have H1 := mkHid h1
            have HY : Hid (y.natAbs < N) := by
              have := (wh_zero (A := A) (x := y) (by rw [h1]; decide)).2.2
              rw [HA.out.1] at this
              exact this
            have hy9 : (y == 0) = false := by simpa using hy
            clear HC0 HC1 e1 h1
            go_wp2_with (first
              | (go_at_call 21; ((with_reducible refine (W1.out _ (HK.out.later HB.out) HA.out.rk).mono ?_)); rintro e w4 ⟨rfl, hb4⟩; dsimp only [askV])
              | (go_at_call 22; ((with_reducible refine (assume_any w.heap.size N A y _ (HA.out.later hb4) HY.out h2 h3).mono ?_)); rintro e w5 ⟨rfl, ha5, hb5⟩))
            go_step3
            have HA5 := mkHid ha5
            have HB5 : Hid (Below w.heap.size w w5) := Below.trans (bon HB.out hb4) (hb5.mono hg)
            clear ha5 hb5
            refine ⟨rfl, ?_⟩
            · exact ⟨put A y, (by rw [E1.out]; exact HU.out), HA5, HB5, _, _, _, _, _, _, _, _, _, _, _, _, _, _, _, _, _, _, _, _, _, _, _, _, _, _, _, _, _, _, _, _, _, _, _, _, _, _, rfl⟩
      · have HE := mkHid (HFN.out A (fun i hi => HN.out i (by omega)))
        have hlt' : ¬ (k : Int) < (n : Int) := by omega
        go_wp2
        simp only [Exit.jump]
        go_ret2
        exact HFIN.out A _ false HE.out HU.out HA.out HB.out
  · rintro a1 w1 ⟨A, HU0, HA, HB, u2, u3, u4, u5, u7, u8, u9, u10, u11, u12, u13, u14, u15, u16, u17, u18, u19, u20, u21, u22, u23, u24, u25, u26, u27, u28, u29, u30, u31, u32, u33, u34, u35, u36, u37, u38, u39, u40, rfl⟩
    have HU := mkHid HU0
    have HA1 := HA
    clear HU0
    go_wp2
    go_loopw [19] (fun i w' => ∃ (k : Nat) (x : Int), k ≤ n ∧ i = .int .i64 x ∧ x = k ∧ Hid (∀ i, i < k → ask A (f i) = none) ∧ Hid (AR w' w.heap.size N A) ∧ Hid (Below w.heap.size w w')) (fun i _ => (n - intOf i).toNat)
    case atStart => exact ⟨0, 0, Nat.zero_le _, rfl, rfl, fun i hi => absurd hi (Nat.not_lt_zero i), HA, HB⟩
    case round =>
      clear HA HB
      obtain ⟨k, x, hk, rfl, hxk, HN, HA, HB⟩ := hrel
      obtain rfl : x = (k : Int) := hxk
      by_cases hlt : k < n
      · obtain ⟨b, of, r, rfl, e1, hrk⟩ := HR.out k hlt
        obtain ⟨f1, f2⟩ := HF.out k hlt
        have g1 := cell_later HB.out e1
        have W1 := mkHid (fun wx hv hu => AK.out (f k) A r (.slice (some ⟨w.heap.size, 0, none⟩) N N) wx hv hu f2 (by rw [HA.out.1]; exact hN) f1)
        have HK := mkHid hrk
        have hlt' : (k : Int) < (n : Int) := by omega
        clear e1 hrk HR AK f1 f2
        have HX := mkHid (FA.out A k (by rw [HA.out.1]; exact hN) hlt HN.out)
        have HN1 : Hid (ask A (f k) = none → ∀ i, i < k + 1 → ask A (f i) = none) := fun h i hi => by
          rcases Nat.lt_or_ge i k with h9 | h9
          · exact HN.out i h9
          · obtain rfl : i = k := by omega
            exact h
        clear HN
        generalize ask A (f k) = q at *
        generalize f k = c0 at *
        match q with
        | none =>
          have HN2 := mkHid (HN1.out rfl)
          clear HN1 HX
          go_wp2_with (go_at_call 21; ((with_reducible refine (W1.out _ (HK.out.later HB.out) HA.out.rk).mono ?_)); rintro e w4 ⟨rfl, hb4⟩; dsimp only [askV])
          go_roundw
          case rel => exact ⟨k + 1, _, by omega, rfl, by omega, HN2, mkHid (HA.out.later hb4), mkHid (bon HB.out hb4)⟩
          case measure => simp [intOf]; omega
        | some y =>
          obtain ⟨hc0, hc1⟩ := HX.out y rfl
          have HC0 := mkHid hc0
          have HC1 := mkHid hc1
          clear hc0 hc1 HN1 HX
          by_cases hy : y = 0
          · subst hy
            have HE := mkHid (HC0.out rfl)
            clear HC0 HC1
            go_wp2_with (go_at_call 21; ((with_reducible refine (W1.out _ (HK.out.later HB.out) HA.out.rk).mono ?_)); rintro e w4 ⟨rfl, hb4⟩; dsimp only [askV])
            simp only [Exit.jump]
            go_ret2
            exact HFIN.out A w4 true HE.out HU.out (HA.out.later hb4) (bon HB.out hb4)
          · obtain ⟨e1, h1, h2, h3⟩ := HC1.out hy
            have E1 := mkHid e1
            have H1 := mkHid h1
            have HY : Hid (y.natAbs < N) := by
              have := (wh_zero (A := A) (x := y) (by rw [h1]; decide)).2.2
              rw [HA.out.1] at this
              exact this
            have hy9 : (y == 0) = false := by simpa using hy
            clear HC0 HC1 e1 h1
            go_wp2_with (first
              | (go_at_call 21; ((with_reducible refine (W1.out _ (HK.out.later HB.out) HA.out.rk).mono ?_)); rintro e w4 ⟨rfl, hb4⟩; dsimp only [askV])
              | (go_at_call 22; ((with_reducible refine (assume_any w.heap.size N A y _ (HA.out.later hb4) HY.out h2 h3).mono ?_)); rintro e w5 ⟨rfl, ha5, hb5⟩))
            go_step3
            have HA5 := mkHid ha5
            have HB5 : Hid (Below w.heap.size w w5) := Below.trans (bon HB.out hb4) (hb5.mono hg)
            clear ha5 hb5
            refine ⟨rfl, ?_, ?_⟩
            · exact ⟨put A y, (by rw [E1.out]; exact HU.out), HA5, HB5, _, _, _, _, _, _, _, _, _, _, _, _, _, _, _, _, _, _, _, _, _, _, _, _, _, _, _, _, _, _, _, _, _, _, _, _, _, _, rfl⟩
            · show zerW w.heap.size N w5 < zerW w.heap.size N w1
              rw [zerW_eq HA5.out, zerW_eq HA1.out]
              have := zer_put H1.out
              omega
      · have HE := mkHid (HFN.out A (fun i hi => HN.out i (by omega)))
        have hlt' : ¬ (k : Int) < (n : Int) := by omega
        go_wp2
        simp only [Exit.jump]
        go_ret2
        exact HFIN.out A _ false HE.out HU.out HA.out HB.out
end Go.Proofs.Ytilhamnibdjfaaa
