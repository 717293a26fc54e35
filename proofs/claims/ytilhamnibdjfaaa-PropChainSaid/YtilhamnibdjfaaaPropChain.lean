/-
  PropChain, walked: it returns true.
-/
import Derived.Test.YtilhamnibdjfaaaPrN
namespace Go.Proofs.Ytilhamnibdjfaaa
open Go.RowKit

theorem getD_lt {α : Type} {M : List α} {d : α} {i : Nat} (h : i < M.length) : M.getD i d = M[i] := by rw [List.getD_eq_getElem?_getD, List.getElem?_eq_getElem h]; rfl
/-- the first k clauses of the chain: each follows from the one ahead -/
def chN (k : Nat) : List (List Int) := (List.range k).map (fun i : Nat => [-((i : Int) + 1), (i : Int) + 2])
theorem chN_succ (k : Nat) : chN (k + 1) = chN k ++ [[-((k : Int) + 1), (k : Int) + 2]] := by
  unfold chN
  rw [List.range_succ, List.map_append]; rfl
theorem chN_len (k : Nat) : (chN k).length = k := by simp [chN]
theorem chain_step {Z : List Int} {i : Nat} (h1 : 1 ≤ i) (h : okC Z [-(i : Int), (i : Int) + 1]) : Z.getD i 0 < 0 ∨ 0 < Z.getD (i + 1) 0 ∨ (Z.getD i 0 = 0 ∧ Z.getD (i + 1) 0 = 0) := by
  have e1 : (-(i : Int)).natAbs = i := by omega
  have e2 : ((i : Int) + 1).natAbs = i + 1 := by omega
  rcases h with ⟨x, hx, e⟩ | ⟨x, hx, y, hy, hne, ex, ey⟩
  · simp only [List.mem_cons, List.not_mem_nil, or_false] at hx
    rcases hx with rfl | rfl
    · have := sign_of e
      rw [e1] at this
      omega
    · have := sign_of e
      rw [e2] at this
      omega
  · simp only [List.mem_cons, List.not_mem_nil, or_false] at hx hy
    have w1 := wh_open ex
    have w2 := wh_open ey
    rcases hx with rfl | rfl <;> rcases hy with rfl | rfl
    · exact absurd rfl hne
    · rw [e1] at w1; rw [e2] at w2; exact .inr (.inr ⟨w1, w2⟩)
    · rw [e2] at w1; rw [e1] at w2; exact .inr (.inr ⟨w2, w1⟩)
    · exact absurd rfl hne
/-- the chain of n variables, in whatever order -/
def IsChain (n : Nat) (L : List (List Int)) : Prop := ∀ c, c ∈ L ↔ ∃ i, 1 ≤ i ∧ i < n ∧ c = [-(i : Int), (i : Int) + 1]
theorem chN_is (n : Nat) (hn : 1 ≤ n) : IsChain n (chN (n - 1)) := by
  intro c
  unfold chN
  simp only [List.mem_map, List.mem_range]
  constructor
  · rintro ⟨i, hi, rfl⟩
    refine ⟨i + 1, by omega, by omega, ?_⟩
    have e2 : ((i + 1 : Nat) : Int) + 1 = (i : Int) + 2 := by omega
    rw [e2]; rfl
  · rintro ⟨i, h1, h2, rfl⟩
    obtain ⟨j, rfl⟩ : ∃ j, i = j + 1 := ⟨i - 1, by omega⟩
    refine ⟨j, by omega, ?_⟩
    have e2 : ((j + 1 : Nat) : Int) + 1 = (j : Int) + 2 := by omega
    rw [e2]; rfl
/-- the chain's clauses ahead of the i-th variable -/
def chM (i : Nat) : List (List Int) := chN (i - 1)
theorem chM_succ {i : Nat} (h : 1 ≤ i) : chM (i + 1) = chM i ++ [[-(i : Int), (i : Int) + 1]] := by
  obtain ⟨j, rfl⟩ : ∃ j, i = j + 1 := ⟨i - 1, by omega⟩
  unfold chM
  have e : j + 1 + 1 - 1 = j + 1 := by omega
  have e1 : j + 1 - 1 = j := by omega
  have e2 : ((j + 1 : Nat) : Int) + 1 = (j : Int) + 2 := by omega
  rw [e, e1, e2, chN_succ]; rfl
theorem chM_len {i : Nat} (_ : 1 ≤ i) : (chM i).length = i - 1 := chN_len _
theorem chM_is (n : Nat) (hn : 1 ≤ n) : IsChain n (chM n) := chN_is n hn
theorem and_low (z : Int) : 0 ≤ bits BinOp.and IntKind.i64 z 65535 ∧ bits BinOp.and IntKind.i64 z 65535 ≤ 65535 := by
  have h : ((BitVec.ofInt 64 z) &&& (BitVec.ofInt 64 65535)).toNat ≤ 65535 := by
    rw [BitVec.toNat_and]
    exact Nat.le_trans Nat.and_le_right (by decide)
  unfold bits
  show 0 ≤ IntKind.i64.wrap (((BitVec.ofInt 64 z) &&& (BitVec.ofInt 64 65535)).toNat : Int) ∧ IntKind.i64.wrap (((BitVec.ofInt 64 z) &&& (BitVec.ofInt 64 65535)).toNat : Int) ≤ 65535
  rw [IntKind.wrap_i64]
  omega
theorem chain_n (z : Int) : ∃ n : Nat, wrap64 (2 + (bits BinOp.and IntKind.i64 z 65535).tmod 39) = (n : Int) ∧ 2 ≤ n ∧ n ≤ 40 := by
  obtain ⟨h1, h2⟩ := and_low z
  generalize bits BinOp.and IntKind.i64 z 65535 = q at *
  have e : q.tmod 39 = q % 39 := Int.tmod_eq_emod_of_nonneg h1
  rw [e]
  refine ⟨(2 + q % 39).toNat, ?_, by omega, by omega⟩
  unfold wrap64
  omega
theorem rep_get (n i : Nat) (x : Int) (h : i < n) : (List.replicate n x).getD i 0 = x := by simp [List.getD_eq_getElem?_getD, h]
theorem rep_out (n i : Nat) (x : Int) (h : n ≤ i) : (List.replicate n x).getD i 0 = 0 := by simp [List.getD_eq_getElem?_getD, h]
theorem ones_closed {n : Nat} {L : List (List Int)} (h : IsChain n L) : closed L (List.replicate (n + 1) 1) := by
  intro c hc
  obtain ⟨i, h1, h2, rfl⟩ := (h c).1 hc
  refine .inl ⟨(i : Int) + 1, by simp, ?_⟩
  have e2 : ((i : Int) + 1).natAbs = i + 1 := by omega
  unfold wh
  rw [e2, if_neg (by simp; omega), rep_get _ _ _ (by omega), if_neg (by omega)]
  rw [if_pos (propext ⟨fun _ => by omega, fun _ => by omega⟩)]
theorem minus_closed {n : Nat} {L : List (List Int)} (h : IsChain n L) : closed L (List.replicate (n + 1) (-1)) := by
  intro c hc
  obtain ⟨i, h1, h2, rfl⟩ := (h c).1 hc
  refine .inl ⟨-(i : Int), by simp, ?_⟩
  have e2 : (-(i : Int)).natAbs = i := by omega
  unfold wh
  rw [e2, if_neg (by simp; omega), rep_get _ _ _ (by omega), if_neg (by omega)]
  rw [if_pos (propext ⟨fun h => absurd h (by omega), fun h => absurd h (by omega)⟩)]
def upA (n : Nat) : List Int := (List.replicate (n + 1) 0).set 1 1
def downA (n : Nat) : List Int := (List.replicate (n + 1) 0).set n (-1)
def bothA (n : Nat) : List Int := ((List.replicate (n + 1) 0).set 1 1).set n (-1)
theorem set_get (A : List Int) (k i : Nat) (x : Int) (hk : k < A.length) : (A.set k x).getD i 0 = if k = i then x else A.getD i 0 := by
  rw [List.getD_eq_getElem?_getD, List.getElem?_set]
  by_cases e : k = i
  · subst e; simp [hk]
  · rw [if_neg e, if_neg e, ← List.getD_eq_getElem?_getD]
theorem rep_zero (n i : Nat) : (List.replicate n (0 : Int)).getD i 0 = 0 := by
  by_cases h : i < n
  · exact rep_get _ _ _ h
  · exact rep_out _ _ _ (by omega)
theorem up_get (n i : Nat) (hn : 2 ≤ n) : (upA n).getD i 0 = if 1 = i then 1 else 0 := by
  unfold upA
  rw [set_get _ _ _ _ (by simp; omega), rep_zero]
theorem down_get (n i : Nat) : (downA n).getD i 0 = if n = i then -1 else 0 := by
  unfold downA
  rw [set_get _ _ _ _ (by simp), rep_zero]
theorem both_get (n i : Nat) (hn : 2 ≤ n) : (bothA n).getD i 0 = if n = i then -1 else if 1 = i then 1 else 0 := by
  unfold bothA
  rw [set_get _ _ _ _ (by simp), set_get _ _ _ _ (by simp; omega), rep_zero]
theorem chain_up {n : Nat} {L : List (List Int)} (hn : 2 ≤ n) (h : IsChain n L) : (unit L (upA n)).2 = false ∧ ∀ i, 1 ≤ i → i ≤ n → (unit L (upA n)).1.getD i 0 = 1 := by
  have ho : ovr (upA n) (List.replicate (n + 1) 1) := by
    refine ⟨by simp [upA], fun i => ?_⟩
    rw [up_get n i hn]
    by_cases hi : i < n + 1
    · rw [rep_get _ _ _ hi]; split <;> simp
    · rw [rep_out _ _ _ (by omega), if_neg (by omega)]; simp
  obtain ⟨h1, h2⟩ := unit_least (ones_closed h) _ ho
  refine ⟨h1, ?_⟩
  have hc := unit_closed _ h1
  have hov := unit_ovr (L := L) (upA n)
  generalize (unit L (upA n)).1 = X at *
  intro i
  induction i with
  | zero => intro h; omega
  | succ i ih =>
    intro _ hi
    by_cases h0 : i = 0
    · subst h0
      have := (hov.2 1).1 (by rw [up_get n 1 hn]; simp)
      rw [this, up_get n 1 hn]; simp
    · have e := ih (by omega) (by omega)
      have := chain_step (Z := X) (i := i) (by omega) (hc _ ((h _).2 ⟨i, by omega, by omega, rfl⟩))
      have hp : 0 < X.getD (i + 1) 0 := by omega
      have := (h2.2 (i + 1)).1 (by omega)
      rw [← this, rep_get _ _ _ (by omega)]
theorem chain_down {n : Nat} {L : List (List Int)} (hn : 2 ≤ n) (h : IsChain n L) : (unit L (downA n)).2 = false ∧ ∀ i, 1 ≤ i → i ≤ n → (unit L (downA n)).1.getD i 0 = -1 := by
  have ho : ovr (downA n) (List.replicate (n + 1) (-1)) := by
    refine ⟨by simp [downA], fun i => ?_⟩
    rw [down_get n i]
    by_cases hi : i < n + 1
    · rw [rep_get _ _ _ hi]; split <;> simp
    · rw [rep_out _ _ _ (by omega), if_neg (by omega)]; simp
  obtain ⟨h1, h2⟩ := unit_least (minus_closed h) _ ho
  refine ⟨h1, ?_⟩
  have hc := unit_closed _ h1
  have hov := unit_ovr (L := L) (downA n)
  generalize (unit L (downA n)).1 = X at *
  have key : ∀ d i, i + d = n → 1 ≤ i → X.getD i 0 = -1 := by
    intro d
    induction d with
    | zero =>
      intro i hi _
      obtain rfl : i = n := by omega
      have := (hov.2 i).1 (by rw [down_get i i]; simp)
      rw [this, down_get i i]; simp
    | succ d ih =>
      intro i hi h9
      have e := ih (i + 1) (by omega) (by omega)
      have := chain_step (Z := X) (i := i) h9 (hc _ ((h _).2 ⟨i, h9, by omega, rfl⟩))
      have hp : X.getD i 0 < 0 := by omega
      have := (h2.2 i).1 (by omega)
      rw [← this, rep_get _ _ _ (by omega)]
  exact fun i h9 hi => key (n - i) i (by omega) h9
theorem chain_both {n : Nat} {L : List (List Int)} (hn : 2 ≤ n) (h : IsChain n L) : (unit L (bothA n)).2 = true := by
  cases e : (unit L (bothA n)).2 with
  | true => rfl
  | false =>
    exfalso
    have hc := unit_closed _ e
    have hov := unit_ovr (L := L) (bothA n)
    generalize (unit L (bothA n)).1 = X at *
    have hpos : ∀ i, 1 ≤ i → i ≤ n → 0 < X.getD i 0 := by
      intro i
      induction i with
      | zero => intro h; omega
      | succ i ih =>
        intro _ hi
        by_cases h0 : i = 0
        · subst h0
          have := (hov.2 1).1 (by rw [both_get n 1 hn, if_neg (by omega)]; simp)
          rw [this, both_get n 1 hn, if_neg (by omega)]; simp
        · have e := ih (by omega) (by omega)
          have := chain_step (Z := X) (i := i) (by omega) (hc _ ((h _).2 ⟨i, by omega, by omega, rfl⟩))
          omega
    have h1 := hpos n (by omega) (Nat.le_refl _)
    have := (hov.2 n).1 (by rw [both_get n n hn]; simp)
    rw [this, both_get n n hn] at h1
    simp at h1
theorem mem_swap {C : List (List Int)} {i j : Nat} (hi : i < C.length) (hj : j < C.length) (hne : i ≠ j) (c : List Int) : c ∈ (C.set i (C.getD j [])).set j (C.getD i []) ↔ c ∈ C := by
  constructor
  · intro h
    rcases List.mem_or_eq_of_mem_set h with h | h
    · rcases List.mem_or_eq_of_mem_set h with h | h
      · exact h
      · rw [h, getD_lt hj]; exact List.getElem_mem hj
    · rw [h, getD_lt hi]; exact List.getElem_mem hi
  · intro h
    obtain ⟨k, hk, e⟩ := List.getElem_of_mem h
    apply List.mem_iff_getElem?.2
    by_cases e1 : k = i
    · subst e1
      refine ⟨j, ?_⟩
      rw [List.getElem?_set, if_pos rfl, if_pos (by simpa using hj), getD_lt hk, e]
    · by_cases e2 : k = j
      · subst e2
        refine ⟨i, ?_⟩
        rw [List.getElem?_set, if_neg (fun e => hne e.symm), List.getElem?_set, if_pos rfl, if_pos hi, getD_lt hk, e]
      · refine ⟨k, ?_⟩
        rw [List.getElem?_set, if_neg (fun e => e2 e.symm), List.getElem?_set, if_neg (fun e => e1 e.symm), List.getElem?_eq_getElem hk, e]
theorem IsChain.swap {n : Nat} {C : List (List Int)} {i j : Nat} (h : IsChain n C) (hi : i < C.length) (hj : j < C.length) (hne : i ≠ j) : IsChain n ((C.set i (C.getD j [])).set j (C.getD i [])) := fun c => (mem_swap hi hj hne c).trans (h c)
theorem own_set2 {w : World} {base g n c b : Nat} {xs : List Value} {u : Value} {R : List Int} (hr : w.ownsRow base 35 1 (.slice (some ⟨g, 0, none⟩) n c) n xs) (i : Nat) (x : Value) (k : w.ownsRow b 3 1 u R.length (nums .i64 R)) : (w.setCell ⟨g, i, none⟩ x).ownsRow b 3 1 u R.length (nums .i64 R) :=
  own_grown (v := .slice (some ⟨g, 0, none⟩) n c) k (World.ownsRow.stored hr i x).2 (own_apart k hr (by decide))
theorem swap_get {α : Type} {C : List α} {i j p : Nat} {x y : α} (hi : i < C.length) (hj : j < C.length) : ((C.set i x).set j y)[p]? = if p = j then some y else if p = i then some x else C[p]? := by
  rw [List.getElem?_set]
  by_cases e1 : j = p
  · subst e1; rw [if_pos rfl, if_pos rfl, if_pos (by simpa using hj)]
  · rw [if_neg e1, if_neg (fun e => e1 e.symm), List.getElem?_set]
    by_cases e2 : i = p
    · subst e2; rw [if_pos rfl, if_pos rfl, if_pos hi]
    · rw [if_neg e2, if_neg (fun e => e2 e.symm)]
/-- two rows changed for each other -/
theorem CR.swap {w : World} {base g n c : Nat} {C : List (List Int)} {us : List Value} {i j : Nat} (h : CR w base (.slice (some ⟨g, 0, none⟩) n c) C us) (hn : C.length = n) (hi : i < us.length) (hj : j < us.length) (x y : Value) (hx : us[j] = x) (hy : us[i] = y) :
    CR ((w.setCell ⟨g, i, none⟩ x).setCell ⟨g, j, none⟩ y) base (.slice (some ⟨g, 0, none⟩) n c) ((C.set i (C.getD j [])).set j (C.getD i [])) ((us.set i x).set j y) := by
  have hr := h.row
  rw [hn] at hr
  have s1 := (World.ownsRow.stored hr i x).1
  have s2 := (World.ownsRow.stored s1 j y).1
  have hlen := h.len
  have hl2 : ((C.set i (C.getD j [])).set j (C.getD i [])).length = n := by simp [hn]
  refine ⟨by rw [hl2]; exact s2, by simp [h.len], fun p hp => ?_⟩
  have hp' : p < us.length := by simpa using hp
  have g1 := swap_get (C := us) (p := p) (x := x) (y := y) hi hj
  have g2 := swap_get (C := C) (i := i) (j := j) (p := p) (x := C.getD j []) (y := C.getD i []) (by omega) (by omega)
  rw [List.getElem?_eq_getElem hp] at g1
  rw [List.getD_eq_getElem?_getD, g2]
  clear g2 hl2 s2
  by_cases e1 : p = j
  · rw [if_pos e1] at g1
    rw [if_pos e1, Option.some.inj g1, Option.getD_some]
    obtain ⟨b, k⟩ := h.els i hi
    rw [hy] at k
    exact ⟨b, own_set2 s1 j _ (own_set2 hr i x k)⟩
  · rw [if_neg e1] at g1
    rw [if_neg e1]
    by_cases e2 : p = i
    · rw [if_pos e2] at g1
      rw [if_pos e2, Option.some.inj g1, Option.getD_some]
      obtain ⟨b, k⟩ := h.els j hj
      rw [hx] at k
      exact ⟨b, own_set2 s1 j y (own_set2 hr i _ k)⟩
    · rw [if_neg e2, List.getElem?_eq_getElem hp'] at g1
      rw [if_neg e2, Option.some.inj g1, ← List.getD_eq_getElem?_getD]
      obtain ⟨b, k⟩ := h.els p hp'
      exact ⟨b, own_set2 s1 j y (own_set2 hr i x k)⟩
theorem chain_small {n : Nat} {C : List (List Int)} {A : List Int} (hn : n ≤ 40) (hC : C.length ≤ 40) (h : IsChain n C) (hA : A.length ≤ 1000) : Small C A := by
  refine ⟨by omega, hA, fun c hc => ?_⟩
  obtain ⟨i, h1, h2, rfl⟩ := (h c).1 hc
  refine ⟨fun x hx => ?_, by simp⟩
  simp only [List.mem_cons, List.not_mem_nil, or_false] at hx
  rcases hx with rfl | rfl <;> omega
theorem cs_at {cs : Array Value} {n : Nat} (h : cs.toList = nums .i8 (List.replicate n 0)) (i : Nat) (hi : i < n) : cs[i]? = some (.int .i8 0) := by
  rw [← Array.getElem?_toList, h, nums_at _ _ _ (by simpa using hi), rep_get _ _ _ hi]
theorem AR.lit {w : World} {n : Nat} {cs : Array Value} {A : List Int} (hA : A.length = n) (hn : n ≤ 1000) (h : cs.toList = nums .i8 A) : AR (w.alloc (.cells cs 30)) w.heap.size n A := by
  refine ⟨hA, ?_⟩
  have hs : cs.size = n * 1 := by rw [← Array.length_toList, h, nums_len, hA, Nat.mul_one]
  have := World.ownsRow_lit (base := w.heap.size) (size := 1) (e := 30) w cs n (Nat.le_refl _) (by unfold maxLen; omega) hs
  rwa [h] at this
theorem three_rows (w : World) (k : Nat) (cs : Array Value) (hk : k ≤ 40) (h : cs.toList = nums .i8 (List.replicate (k + 1) 0)) :
    AR (((w.alloc (.cells (cs.setIfInBounds 1 (.int .i8 1)) 30)).alloc (.cells (cs.setIfInBounds k (.int .i8 (-1))) 30)).alloc (.cells ((cs.setIfInBounds 1 (.int .i8 1)).setIfInBounds k (.int .i8 (-1))) 30)) w.heap.size (k + 1) (upA k) ∧
    AR (((w.alloc (.cells (cs.setIfInBounds 1 (.int .i8 1)) 30)).alloc (.cells (cs.setIfInBounds k (.int .i8 (-1))) 30)).alloc (.cells ((cs.setIfInBounds 1 (.int .i8 1)).setIfInBounds k (.int .i8 (-1))) 30)) (w.heap.size + 1) (k + 1) (downA k) ∧
    AR (((w.alloc (.cells (cs.setIfInBounds 1 (.int .i8 1)) 30)).alloc (.cells (cs.setIfInBounds k (.int .i8 (-1))) 30)).alloc (.cells ((cs.setIfInBounds 1 (.int .i8 1)).setIfInBounds k (.int .i8 (-1))) 30)) (w.heap.size + 1 + 1) (k + 1) (bothA k) ∧
    Below w.heap.size w (((w.alloc (.cells (cs.setIfInBounds 1 (.int .i8 1)) 30)).alloc (.cells (cs.setIfInBounds k (.int .i8 (-1))) 30)).alloc (.cells ((cs.setIfInBounds 1 (.int .i8 1)).setIfInBounds k (.int .i8 (-1))) 30)) := by
  have e1 : (cs.setIfInBounds 1 (.int .i8 1)).toList = nums .i8 (upA k) := by rw [Array.toList_setIfInBounds, h, nums_set]; rfl
  have e2 : (cs.setIfInBounds k (.int .i8 (-1))).toList = nums .i8 (downA k) := by rw [Array.toList_setIfInBounds, h, nums_set]; rfl
  have e3 : ((cs.setIfInBounds 1 (.int .i8 1)).setIfInBounds k (.int .i8 (-1))).toList = nums .i8 (bothA k) := by rw [Array.toList_setIfInBounds, e1, nums_set]; rfl
  have l1 : (upA k).length = k + 1 := by simp [upA]
  have l2 : (downA k).length = k + 1 := by simp [downA]
  have l3 : (bothA k).length = k + 1 := by simp [bothA]
  have a1 := AR.lit (w := w) l1 (by omega) e1
  have b1 := bel_alloc w (.cells (cs.setIfInBounds 1 (.int .i8 1)) 30)
  have s1 := size_alloc w (.cells (cs.setIfInBounds 1 (.int .i8 1)) 30)
  have a2 := AR.lit (w := w.alloc (.cells (cs.setIfInBounds 1 (.int .i8 1)) 30)) l2 (by omega) e2
  have b2 := bel_alloc (w.alloc (.cells (cs.setIfInBounds 1 (.int .i8 1)) 30)) (.cells (cs.setIfInBounds k (.int .i8 (-1))) 30)
  have s2 := size_alloc (w.alloc (.cells (cs.setIfInBounds 1 (.int .i8 1)) 30)) (.cells (cs.setIfInBounds k (.int .i8 (-1))) 30)
  have a3 := AR.lit (w := (w.alloc (.cells (cs.setIfInBounds 1 (.int .i8 1)) 30)).alloc (.cells (cs.setIfInBounds k (.int .i8 (-1))) 30)) l3 (by omega) e3
  have b3 := bel_alloc ((w.alloc (.cells (cs.setIfInBounds 1 (.int .i8 1)) 30)).alloc (.cells (cs.setIfInBounds k (.int .i8 (-1))) 30)) (.cells ((cs.setIfInBounds 1 (.int .i8 1)).setIfInBounds k (.int .i8 (-1))) 30)
  rw [s1] at a2
  rw [s2, s1] at a3
  exact ⟨a1.later (bon b2 b3), a2.later b3, a3, bon (bon b1 b2) b3⟩
theorem up_len (k : Nat) : (upA k).length = k + 1 := by simp [upA]
theorem down_len (k : Nat) : (downA k).length = k + 1 := by simp [downA]
theorem both_len (k : Nat) : (bothA k).length = k + 1 := by simp [bothA]
set_option maxRecDepth 100000 in
set_option maxHeartbeats 8000000 in
theorem chain_any (z : Int) (turn : Bool) (w : World) (_ : -9223372036854775808 ≤ z ∧ z ≤ 9223372036854775807) : Calls Try.prog 10 #[.int .i64 z, .bool turn] w (RetV (.bool true) w) := by
  obtain ⟨n, hn, hn2, hn40⟩ := chain_n z
  have HC0 : Hid (∀ i, 1 ≤ i → chM (i + 1) = chM i ++ [[-(i : Int), (i : Int) + 1]]) := fun i hi => chM_succ hi
  have HCI := mkHid (chM_is n (by omega))
  have HCL := mkHid (fun i (h : 1 ≤ i) => chM_len (i := i) h)
  have HCU := mkHid (fun L (h : IsChain n L) => chain_up hn2 h)
  have HCD := mkHid (fun L (h : IsChain n L) => chain_down hn2 h)
  have HCB := mkHid (fun L (h : IsChain n L) => chain_both hn2 h)
  have hc1 : Hid (chM 1 = []) := rfl
  go_enter Try.func10, Try.ntmps10
  go_wp2_with (go_at_call 12; ((with_reducible refine (shown_any _).mono ?_)); rintro e w1 ⟨rfl, hb1⟩; have HB1 := mkHid hb1; clear hb1)
  rw [hn]
  clear hn
  go_loopw [6, 7] (fun q i w' => ∃ (k : Nat) (x : Int) (us : List Value), 1 ≤ k ∧ k ≤ n ∧ i = .int .i64 x ∧ x = k ∧ Hid (CR w' w.heap.size q (chM k) us) ∧ Hid (Below w.heap.size w w')) (fun _ i _ => (n - intOf i).toNat)
  case atStart => exact ⟨1, 1, [], Nat.le_refl _, by omega, rfl, rfl, mkHid (by rw [hc1.out]; exact CR.nil _ _), HB1⟩
  case round =>
    clear HB1 hc1
    obtain ⟨k, x, us, hk1, hk, rfl, hxk, HC, HB⟩ := hrel
    obtain rfl : x = (k : Int) := hxk
    by_cases hlt : k < n
    · have hlt' : (k : Int) < (n : Int) := by omega
      have h40 : (k : Int) ≤ 40 := by omega
      have b6 := bel_alloc wr (.cells #[.int .i64 (-(k : Int)), .int .i64 ((k : Int) + 1)] 3)
      have ho := own_lit (w := wr) [-(k : Int), (k : Int) + 1] 2 #[.int .i64 (-(k : Int)), .int .i64 ((k : Int) + 1)] rfl (by omega) rfl
      have b7 := bel_alloc (wr.alloc (.cells #[.int .i64 (-(k : Int)), .int .i64 ((k : Int) + 1)] 3)) (.cells #[.slice (some ⟨wr.heap.size, 0, none⟩) 2 2] 35)
      have hone := one_cell (wr.alloc (.cells #[.int .i64 (-(k : Int)), .int .i64 ((k : Int) + 1)] 3)) (.slice (some ⟨wr.heap.size, 0, none⟩) 2 2) 35
      obtain ⟨v9, w9, hrun, hc9, hb9⟩ := run_row (HC.out.later (bon b6 b7)) (own_keep ho b7) hone (by rw [HCL.out k hk1]; omega) (bon HB.out (bon b6 b7)).size
      rw [← HC0.out k hk1] at hc9
      have HC9 := mkHid hc9
      have HB9 := mkHid (Below.trans (bon HB.out (bon b6 b7)) hb9)
      rw [size_alloc] at hrun
      clear b6 b7 ho hone hc9 hb9 HC0 HCI HCL HCU HCD HCB
      go_wp2_with (at_builtin
                   refine wpList_run rfl (.tmp 30) (.tmp 36) rfl rfl (by rfl) (by rfl) hrun ?_)
      go_roundw
      case rel => exact ⟨k + 1, _, _, by omega, by omega, rfl, by omega, HC9, HB9⟩
      case measure => simp [intOf]; omega
    · obtain rfl : k = n := by omega
      have hlt' : ¬ (k : Int) < (k : Int) := by omega
      have hlen := HCL.out k hk1
      obtain ⟨g, c6, rfl⟩ := own_some HC.out.row (by rw [hlen]; omega)
      obtain ⟨C, HCC⟩ : ∃ C, chM k = C := ⟨_, rfl⟩
      rw [HCC] at HC HCI hlen ⊢
      have HLN := mkHid hlen
      obtain ⟨m, hm⟩ : ∃ m, k - 1 = m := ⟨_, rfl⟩
      have hkm : k = m + 1 := by omega
      rw [hlen] at HC
      rw [hlen, hm]
      clear HC0 HCL HCC hlen
      rw [hm] at HC HLN
      have HKM := mkHid hkm
      have hm40 : m ≤ 40 := by omega
      clear hkm hm
      cases turn
      · skip
        obtain ⟨cs, k1, k2, mk⟩ := made_lit (k + 1) ((k : Int) + 1) (by omega) (by omega)
        have hcs1 := cs_at k2 1 (by omega)
        have hcsk := cs_at k2 k (by omega)
        have hk1k : (1 : Int) < (k : Int) + 1 := by omega
        have hk2k : (k : Int) < (k : Int) + 1 := by omega
        have hne1 : ¬ 1 = k := by omega
        have hne2 : ¬ k = 1 := by omega
        obtain ⟨hu1, hu2, hu3, hub⟩ := three_rows wr k cs (by omega) k2
        have HS1 := mkHid (chain_small (A := upA k) hn40 (by rw [HLN.out]; omega) HCI.out (by rw [up_len]; omega))
        have HS2 := mkHid (chain_small (A := downA k) hn40 (by rw [HLN.out]; omega) HCI.out (by rw [down_len]; omega))
        have HS3 := mkHid (chain_small (A := bothA k) hn40 (by rw [HLN.out]; omega) HCI.out (by rw [both_len]; omega))
        obtain ⟨X, cx, hx⟩ : ∃ X cf, unit C (upA k) = (X, cf) := ⟨_, _, rfl⟩
        obtain ⟨Y, cy, hy⟩ : ∃ X cf, unit C (downA k) = (X, cf) := ⟨_, _, rfl⟩
        obtain ⟨Z, cz, hz⟩ : ∃ X cf, unit C (bothA k) = (X, cf) := ⟨_, _, rfl⟩
        obtain ⟨x1, x2⟩ := HCU.out C HCI.out
        obtain ⟨y1, y2⟩ := HCD.out C HCI.out
        have z1 := HCB.out C HCI.out
        rw [hx] at x1 x2
        rw [hy] at y1 y2
        rw [hz] at z1
        obtain rfl : cx = false := x1
        obtain rfl : cy = false := y1
        obtain rfl : cz = true := z1
        have X2 : Hid (∀ i, 1 ≤ i → i ≤ k → X.getD i 0 = 1) := x2
        have Y2 : Hid (∀ i, 1 ≤ i → i ≤ k → Y.getD i 0 = -1) := y2
        have U1 := mkHid (fun w' v' u' hv' hu' => unit_is (w := w') (v := v') (u := u') HS1.out hx hv' hu')
        have U2 := mkHid (fun w' v' u' hv' hu' => unit_is (w := w') (v := v') (u := u') HS2.out hy hv' hu')
        have U3 := mkHid (fun w' v' u' hv' hu' => unit_is (w := w') (v := v') (u := u') HS3.out hz hv' hu')
        have HU1 := mkHid hu1
        have HU2 := mkHid hu2
        have HU3 := mkHid hu3
        have HUB := mkHid hub
        have HWB := mkHid (bon HB.out hub)
        have hkk : ¬ (k : Int) + 1 ≤ (k : Int) := by omega
        clear hu1 hu2 hu3 hub hx hy hz x2 y2 HS1 HS2 HS3 HCU HCD HCB HCI k1 k2
        go_wp2_with (first
          | (revert HB4; intro HB4; (go_at_call 14; ((with_reducible refine (U3.out _ _ _ (HC.out.later (bon HUB.out (bon HD3.out HD4.out))).rr (HU3.out.later (bon HD3.out HD4.out)).rk).mono ?_)); rintro e w5 ⟨g5, N5, rfl, hN5, hg5, ha5, hb5⟩; obtain rfl : k + 1 = N5 := (hN5.trans (both_len k)).symm; clear hN5; have HB5 := mkHid (bon HB4.out hb5); have HX5 := mkHid (HX3.out.later (bon HD4.out hb5)); have HY5 := mkHid (HX4.out.later hb5); clear hb5 ha5))
          | (revert HB3; intro HB3; (go_at_call 14; ((with_reducible refine (U2.out _ _ _ (HC.out.later (bon HUB.out HD3.out)).rr (HU2.out.later HD3.out).rk).mono ?_)); rintro e w4 ⟨g4, N4, rfl, hN4, hg4, ha4, hb4⟩; obtain rfl : k + 1 = N4 := (hN4.trans (down_len k)).symm; clear hN4; have HX4 := mkHid ha4; have HB4 := mkHid (bon HB3.out hb4); have HD4 := mkHid hb4; clear hb4 ha4))
          | (go_at_call 14; ((with_reducible refine (U1.out _ _ _ (HC.out.later HUB.out).rr HU1.out.rk).mono ?_)); rintro e w3 ⟨g3, N3, rfl, hN3, hg3, ha3, hb3⟩; obtain rfl : k + 1 = N3 := (hN3.trans (up_len k)).symm; clear hN3; have HX3 := mkHid ha3; have HB3 := mkHid (bon HWB.out hb3); have HD3 := mkHid hb3; clear hb3 ha3))
        go_loopw [19] (fun i w' => ∃ (p : Nat) (x : Int), 1 ≤ p ∧ p ≤ k + 1 ∧ i = .int .i64 x ∧ x = p ∧ Hid (Below w5.heap.size w5 w')) (fun i _ => (k + 1 - intOf i).toNat)
        case atStart => exact ⟨1, 1, Nat.le_refl _, by omega, rfl, rfl, mkHid (Below.refl _ _)⟩
        case round =>
          obtain ⟨p, x, hp1, hp2, rfl, hxp, HW⟩ := hrel
          obtain rfl : x = (p : Int) := hxp
          by_cases hlp : p ≤ k
          · have cx := (HX5.out.later HW.out).cell p (by omega)
            have cy := (HY5.out.later HW.out).cell p (by omega)
            rw [X2.out p hp1 hlp] at cx
            rw [Y2.out p hp1 hlp] at cy
            have hlp' : (p : Int) ≤ (k : Int) := by omega
            have hlp2 : (p : Int) < (k : Int) + 1 := by omega
            go_wp2
            go_roundw
            case rel => exact ⟨p + 1, _, by omega, by omega, rfl, by omega, HW⟩
            case measure => simp [intOf]; omega
          · have hlp' : ¬ (p : Int) ≤ (k : Int) := by omega
            go_wp2
            go_ret
            exact ⟨rfl, bon HB5.out HW.out⟩
      · go_wp2
        go_loopw [8, 9] (fun i _ w' => ∃ (p : Nat) (x : Int) (C : List (List Int)) (us : List Value), 2 * p ≤ m ∧ i = .int .i64 x ∧ x = p ∧ Hid (CR w' w.heap.size (.slice (some ⟨g, 0, none⟩) m c6) C us) ∧ Hid (IsChain k C) ∧ Hid (C.length = m) ∧ Hid (Below w.heap.size w w')) (fun i _ _ => (m - intOf i).toNat)
        case atStart => exact ⟨0, 0, C, us, by omega, rfl, rfl, HC, HCI, HLN, HB⟩
        case round =>
          clear HC HCI HLN HB
          obtain ⟨p, x, C, us, hp, rfl, hxp, HC, HCI, HLN, HB⟩ := hrel
          obtain rfl : x = (p : Int) := hxp
          by_cases hlt2 : p < m / 2
          · obtain ⟨j, hj⟩ : ∃ j, m - 1 - p = j := ⟨_, rfl⟩
            have hji : (m : Int) - 1 - (p : Int) = (j : Int) := by omega
            have hq1 : (p : Int) < (m : Int) / 2 := by omega
            have hq2 : (m : Int).tdiv 2 = (m : Int) / 2 := Int.tdiv_eq_ediv_of_nonneg (by omega)
            have hpm : (p : Int) < (m : Int) := by omega
            have hjm : (j : Int) < (m : Int) := by omega
            have hul := HC.out.len
            rw [HLN.out] at hul
            have hpu : p < us.length := by omega
            have hju : j < us.length := by omega
            have hne : p ≠ j := by omega
            have hcs := HCI.out.swap (i := p) (j := j) (by rw [HLN.out]; omega) (by rw [HLN.out]; omega) hne
            obtain ⟨b1, k1⟩ := HC.out.els p hpu
            obtain ⟨b2, k2⟩ := HC.out.els j hju
            obtain ⟨a1, q1, e1, -⟩ := own_val k1
            obtain ⟨a2, q2, e2, -⟩ := own_val k2
            have r0 := HC.out.row
            rw [HLN.out] at r0
            have c1 := r0.cellAt p (by omega)
            have c2 := r0.cellAt j (by omega)
            rw [List.getElem?_eq_getElem hpu, e1] at c1
            rw [List.getElem?_eq_getElem hju, e2] at c2
            have z1 := World.ownsRow.frozenAt r0 p
            have s1 := (World.ownsRow.stored r0 p us[j]).1
            have c3 := s1.cellAt j (by omega)
            rw [List.getElem?_set, if_neg hne, List.getElem?_eq_getElem hju, e2] at c3
            have z2 := World.ownsRow.frozenAt s1 j
            rw [e2] at z2
            have hsw := HC.out.swap HLN.out hpu hju _ _ e2 e1
            have hbg := (own_lt r0 rfl).1
            have hbw : Below w.heap.size wr ((wr.setCell ⟨g, p, none⟩ (.slice a2 (C.getD j []).length q2)).setCell ⟨g, j, none⟩ (.slice a1 (C.getD p []).length q1)) := by
              refine Below.setCell (Below.setCell (Below.refl _ _) ?_ _) ?_ _ <;> exact hbg
            generalize (C.getD p []).length = l1 at *
            generalize (C.getD j []).length = l2 at *
            have HSW := mkHid hsw
            have HBW := mkHid (Below.trans HB.out hbw)
            have HCS := mkHid hcs
            clear k1 k2 r0 s1 hsw hbw hcs hul hj e1 e2
            go_wp2
            go_roundw
            case rel => exact ⟨p + 1, _, _, _, by omega, rfl, by omega, HSW, HCS, mkHid (by simp [HLN.out]), HBW⟩
            case measure => simp [intOf]; omega
          · have hq1 : ¬ (p : Int) < (m : Int) / 2 := by omega
            have hq2 : (m : Int).tdiv 2 = (m : Int) / 2 := Int.tdiv_eq_ediv_of_nonneg (by omega)
            obtain ⟨cs, k1, k2, mk⟩ := made_lit (k + 1) ((k : Int) + 1) (by omega) (by omega)
            have hcs1 := cs_at k2 1 (by omega)
            have hcsk := cs_at k2 k (by omega)
            have hk1k : (1 : Int) < (k : Int) + 1 := by omega
            have hk2k : (k : Int) < (k : Int) + 1 := by omega
            have hne1 : ¬ 1 = k := by omega
            have hne2 : ¬ k = 1 := by omega
            obtain ⟨hu1, hu2, hu3, hub⟩ := three_rows wr k cs (by omega) k2
            have HS1 := mkHid (chain_small (A := upA k) hn40 (by rw [HLN.out]; omega) HCI.out (by rw [up_len]; omega))
            have HS2 := mkHid (chain_small (A := downA k) hn40 (by rw [HLN.out]; omega) HCI.out (by rw [down_len]; omega))
            have HS3 := mkHid (chain_small (A := bothA k) hn40 (by rw [HLN.out]; omega) HCI.out (by rw [both_len]; omega))
            obtain ⟨X, cx, hx⟩ : ∃ X cf, unit C (upA k) = (X, cf) := ⟨_, _, rfl⟩
            obtain ⟨Y, cy, hy⟩ : ∃ X cf, unit C (downA k) = (X, cf) := ⟨_, _, rfl⟩
            obtain ⟨Z, cz, hz⟩ : ∃ X cf, unit C (bothA k) = (X, cf) := ⟨_, _, rfl⟩
            obtain ⟨x1, x2⟩ := HCU.out C HCI.out
            obtain ⟨y1, y2⟩ := HCD.out C HCI.out
            have z1 := HCB.out C HCI.out
            rw [hx] at x1 x2
            rw [hy] at y1 y2
            rw [hz] at z1
            obtain rfl : cx = false := x1
            obtain rfl : cy = false := y1
            obtain rfl : cz = true := z1
            have X2 : Hid (∀ i, 1 ≤ i → i ≤ k → X.getD i 0 = 1) := x2
            have Y2 : Hid (∀ i, 1 ≤ i → i ≤ k → Y.getD i 0 = -1) := y2
            have U1 := mkHid (fun w' v' u' hv' hu' => unit_is (w := w') (v := v') (u := u') HS1.out hx hv' hu')
            have U2 := mkHid (fun w' v' u' hv' hu' => unit_is (w := w') (v := v') (u := u') HS2.out hy hv' hu')
            have U3 := mkHid (fun w' v' u' hv' hu' => unit_is (w := w') (v := v') (u := u') HS3.out hz hv' hu')
            have HU1 := mkHid hu1
            have HU2 := mkHid hu2
            have HU3 := mkHid hu3
            have HUB := mkHid hub
            have HWB := mkHid (bon HB.out hub)
            have hkk : ¬ (k : Int) + 1 ≤ (k : Int) := by omega
            clear hu1 hu2 hu3 hub hx hy hz x2 y2 HS1 HS2 HS3 HCU HCD HCB HCI k1 k2
            go_wp2_with (first
              | (revert HB4; intro HB4; (go_at_call 14; ((with_reducible refine (U3.out _ _ _ (HC.out.later (bon HUB.out (bon HD3.out HD4.out))).rr (HU3.out.later (bon HD3.out HD4.out)).rk).mono ?_)); rintro e w5 ⟨g5, N5, rfl, hN5, hg5, ha5, hb5⟩; obtain rfl : k + 1 = N5 := (hN5.trans (both_len k)).symm; clear hN5; have HB5 := mkHid (bon HB4.out hb5); have HX5 := mkHid (HX3.out.later (bon HD4.out hb5)); have HY5 := mkHid (HX4.out.later hb5); clear hb5 ha5))
              | (revert HB3; intro HB3; (go_at_call 14; ((with_reducible refine (U2.out _ _ _ (HC.out.later (bon HUB.out HD3.out)).rr (HU2.out.later HD3.out).rk).mono ?_)); rintro e w4 ⟨g4, N4, rfl, hN4, hg4, ha4, hb4⟩; obtain rfl : k + 1 = N4 := (hN4.trans (down_len k)).symm; clear hN4; have HX4 := mkHid ha4; have HB4 := mkHid (bon HB3.out hb4); have HD4 := mkHid hb4; clear hb4 ha4))
              | (go_at_call 14; ((with_reducible refine (U1.out _ _ _ (HC.out.later HUB.out).rr HU1.out.rk).mono ?_)); rintro e w3 ⟨g3, N3, rfl, hN3, hg3, ha3, hb3⟩; obtain rfl : k + 1 = N3 := (hN3.trans (up_len k)).symm; clear hN3; have HX3 := mkHid ha3; have HB3 := mkHid (bon HWB.out hb3); have HD3 := mkHid hb3; clear hb3 ha3))
            go_loopw [19] (fun i w' => ∃ (p : Nat) (x : Int), 1 ≤ p ∧ p ≤ k + 1 ∧ i = .int .i64 x ∧ x = p ∧ Hid (Below w5.heap.size w5 w')) (fun i _ => (k + 1 - intOf i).toNat)
            case atStart => exact ⟨1, 1, Nat.le_refl _, by omega, rfl, rfl, mkHid (Below.refl _ _)⟩
            case round =>
              obtain ⟨p, x, hp1, hp2, rfl, hxp, HW⟩ := hrel
              obtain rfl : x = (p : Int) := hxp
              by_cases hlp : p ≤ k
              · have cx := (HX5.out.later HW.out).cell p (by omega)
                have cy := (HY5.out.later HW.out).cell p (by omega)
                rw [X2.out p hp1 hlp] at cx
                rw [Y2.out p hp1 hlp] at cy
                have hlp' : (p : Int) ≤ (k : Int) := by omega
                have hlp2 : (p : Int) < (k : Int) + 1 := by omega
                go_wp2
                go_roundw
                case rel => exact ⟨p + 1, _, by omega, by omega, rfl, by omega, HW⟩
                case measure => simp [intOf]; omega
              · have hlp' : ¬ (p : Int) ≤ (k : Int) := by omega
                go_wp2
                go_ret
                exact ⟨rfl, bon HB5.out HW.out⟩
end Go.Proofs.Ytilhamnibdjfaaa
