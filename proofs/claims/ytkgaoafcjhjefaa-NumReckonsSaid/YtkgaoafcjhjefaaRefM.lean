/-
  Plain facts of rows of digits: a digit that is set; products and quotients digit by digit.
-/
import Derived.Test.YtkgaoafcjhjefaaRefC
namespace Go.Proofs.Ytkgaoafcjhjefaa

theorem valD_set : ∀ (os : List Int) (j : Nat) (v : Int), j < os.length → valD (os.set j v) = valD os + 10 ^ j * (v - os.getD j 0)
  | [], j, v, h => by simp at h
  | d :: ds, 0, v, _ => by simp [valD]; omega
  | d :: ds, j + 1, v, h => by
    have ih := valD_set ds j v (by simpa using h)
    simp only [List.set_cons_succ, valD, ih, List.getD_cons_succ, Int.pow_succ]
    rw [Int.mul_add, Int.mul_comm (10 ^ j) 10, Int.mul_assoc, Int.add_assoc]
theorem getD_set (os : List Int) (j k : Nat) (v : Int) (h : j < os.length) : (os.set j v).getD k 0 = if k = j then v else os.getD k 0 := by
  simp only [List.getD, List.getElem?_set]
  by_cases e : j = k
  · subst e; simp [h]
  · have : ¬ k = j := fun h => e h.symm
    simp [e, this]
theorem valD_replicate (n : Nat) : valD (List.replicate n 0) = 0 := by
  induction n with
  | zero => rfl
  | succ n ih => rw [List.replicate_succ, valD, ih]; rfl
theorem digs_of (os : List Int) (h : ∀ j, j < os.length → 0 ≤ os.getD j 0 ∧ os.getD j 0 ≤ 9) : Digs os := by
  intro d hd
  obtain ⟨j, hj, rfl⟩ := List.getElem_of_mem hd
  have := h j hj
  rw [List.getD, List.getElem?_eq_getElem hj] at this
  exact this
/-- a row of numbers that are not below 0 is at least its last one's worth -/
theorem valD_ge : ∀ (os : List Int) (j : Nat), (∀ k, 0 ≤ os.getD k 0) → 10 ^ j * os.getD j 0 ≤ valD os
  | [], j, _ => by simp [valD]
  | d :: ds, 0, h => by
    have h0 := h 0
    have hn : 0 ≤ valD ds := by
      have := valD_ge ds 0 (fun k => by have := h (k + 1); simpa using this)
      have h1 := h 1
      simp at this h1
      omega
    simp [valD]; omega
  | d :: ds, j + 1, h => by
    have h0 := h 0
    have ih := valD_ge ds j (fun k => by have := h (k + 1); simpa using this)
    simp at h0
    simp only [List.getD_cons_succ, valD, Int.pow_succ]
    rw [Int.mul_comm (10 ^ j) 10, Int.mul_assoc]; omega

/- products -/
structure TIn (f g : Nat → Int) (L i k : Nat) (V : Int) (os : List Int) : Prop where
  len : os.length = L
  val : valD os = V
  low : ∀ j, 0 ≤ os.getD j 0 ∧ os.getD j 0 ≤ 90
  rest : ∀ j, i + k ≤ j → os.getD j 0 ≤ 9
theorem TIn.step {f g : Nat → Int} {L i k : Nat} {V : Int} {os : List Int} (h : TIn f g L i k V os) (hf : 0 ≤ f i ∧ f i ≤ 9) (hg : 0 ≤ g k ∧ g k ≤ 9) (hL : i + k < L) :
    TIn f g L i (k + 1) (V + 10 ^ (i + k) * (f i * g k)) (os.set (i + k) (os.getD (i + k) 0 + f i * g k)) := by
  obtain ⟨h1, h2, h3, h4⟩ := h
  have p0 : 0 ≤ f i * g k := Int.mul_nonneg hf.1 hg.1
  have p1 : f i * g k ≤ 81 := by
    have := Int.mul_le_mul hf.2 hg.2 hg.1 (by decide : (0 : Int) ≤ 9)
    omega
  refine ⟨by simpa using h1, ?_, ?_, ?_⟩
  · rw [valD_set _ _ _ (by omega), h2]
    congr 2; omega
  · intro j
    rw [getD_set _ _ _ _ (by omega)]
    split
    · have := h3 (i + k); have := h4 (i + k) (by omega); omega
    · exact h3 j
  · intro j hj
    rw [getD_set _ _ _ _ (by omega), if_neg (by omega)]
    exact h4 j (by omega)
structure TOut (L k : Nat) (V : Int) (os : List Int) : Prop where
  len : os.length = L
  val : valD os = V
  done : ∀ j, j < k → 0 ≤ os.getD j 0 ∧ os.getD j 0 ≤ 9
  here : 0 ≤ os.getD k 0 ∧ os.getD k 0 ≤ 99
  rest : ∀ j, k < j → 0 ≤ os.getD j 0 ∧ os.getD j 0 ≤ 90
theorem TOut.step {L k : Nat} {V : Int} {os : List Int} (h : TOut L k V os) (hL : k + 1 < L) :
    TOut L (k + 1) V ((os.set (k + 1) (os.getD (k + 1) 0 + os.getD k 0 / 10)).set k (os.getD k 0 % 10)) := by
  obtain ⟨h1, h2, h3, h4, h5⟩ := h
  have hk := h5 (k + 1) (by omega)
  have l1 : k < (os.set (k + 1) (os.getD (k + 1) 0 + os.getD k 0 / 10)).length := by simp; omega
  have gd : ∀ j, ((os.set (k + 1) (os.getD (k + 1) 0 + os.getD k 0 / 10)).set k (os.getD k 0 % 10)).getD j 0 = if j = k then os.getD k 0 % 10 else if j = k + 1 then os.getD (k + 1) 0 + os.getD k 0 / 10 else os.getD j 0 := by
    intro j; rw [getD_set _ _ _ _ l1, getD_set _ _ _ _ (by omega)]
  refine ⟨by simpa using h1, ?_, ?_, ?_, ?_⟩
  · rw [valD_set _ _ _ l1, valD_set _ _ _ (by omega), getD_set _ _ _ _ (by omega), if_neg (by omega), h2, Int.pow_succ]
    have e := Int.emod_add_mul_ediv (os.getD k 0) 10
    generalize os.getD k 0 / 10 = q at *
    generalize os.getD k 0 % 10 = r at *
    generalize (10 : Int) ^ k = T at *
    rw [← e]; grind
  · intro j hj
    rw [gd]
    split
    · omega
    · rw [if_neg (by omega)]; exact h3 j (by omega)
  · rw [gd, if_neg (by omega), if_pos rfl]; omega
  · intro j hj
    rw [gd, if_neg (by omega), if_neg (by omega)]; exact h5 j (by omega)
theorem TIn.out {f g : Nat → Int} {L i k : Nat} {V : Int} {os : List Int} (h : TIn f g L i k V os) : TOut L 0 V os :=
  ⟨h.len, h.val, fun j hj => by omega, by have := h.low 0; omega, fun j _ => h.low j⟩
theorem TOut.fin {L k : Nat} {V : Int} {os : List Int} (h : TOut L k V os) (hk : k + 1 = L) (hV : V < 10 ^ k) : Digs os := by
  obtain ⟨h1, h2, h3, h4, h5⟩ := h
  have nn : ∀ j, 0 ≤ os.getD j 0 := by
    intro j
    rcases Nat.lt_trichotomy j k with g | g | g
    · exact (h3 j g).1
    · subst g; exact h4.1
    · exact (h5 j g).1
  have := valD_ge os k nn
  rw [h2] at this
  have last : os.getD k 0 = 0 := by
    rcases Int.lt_or_le 0 (os.getD k 0) with g | g
    · exfalso
      have h6 : (10 : Int) ^ k * 1 ≤ 10 ^ k * os.getD k 0 := Int.mul_le_mul_of_nonneg_left (by omega) (Int.pow_nonneg (by decide))
      omega
    · have := nn k; omega
  refine digs_of os fun j hj => ?_
  by_cases g : j < k
  · exact h3 j g
  · obtain rfl : j = k := by omega
    omega
theorem Digs.tin {f g : Nat → Int} {L i : Nat} {os : List Int} (h : Digs os) (hl : os.length = L) : TIn f g L i 0 (valD os) os :=
  ⟨hl, rfl, fun j => by have := h.get j; omega, fun j _ => (h.get j).2⟩
theorem take_lt {xs : List Int} (h : Digs xs) (i : Nat) : valD (xs.take i) < 10 ^ i := by
  have h1 := (h.take i).lt
  have h2 : (10 : Int) ^ (xs.take i).length ≤ 10 ^ i := by
    have : (10 : Nat) ^ (xs.take i).length ≤ 10 ^ i := Nat.pow_le_pow_right (by decide) (by simp; omega)
    exact_mod_cast this
  omega
theorem prod_lt {xs ys : List Int} (hx : Digs xs) (hy : Digs ys) (i L : Nat) (hL : i + ys.length ≤ L) : valD (xs.take i) * valD ys < 10 ^ L := by
  have a := take_lt hx i
  have b := hy.lt
  have a0 := (hx.take i).nonneg
  have b0 := hy.nonneg
  have h1 : valD (xs.take i) * valD ys ≤ 10 ^ i * valD ys := Int.mul_le_mul_of_nonneg_right (by omega) b0
  have h2 : (10 : Int) ^ i * valD ys < 10 ^ i * 10 ^ ys.length := Int.mul_lt_mul_of_pos_left b (Int.pow_pos (by decide))
  have h3 : (10 : Int) ^ i * 10 ^ ys.length ≤ 10 ^ L := by
    rw [← Int.pow_add]
    have : (10 : Nat) ^ (i + ys.length) ≤ 10 ^ L := Nat.pow_le_pow_right (by decide) hL
    exact_mod_cast this
  omega
/-- the rounds of the inner loop put together -/
theorem prod_round (xs ys : List Int) (i k : Nat) : valD (xs.take i) * valD ys + 10 ^ i * (xs.getD i 0 * valD (ys.take k)) + 10 ^ (i + k) * (xs.getD i 0 * ys.getD k 0) = valD (xs.take i) * valD ys + 10 ^ i * (xs.getD i 0 * valD (ys.take (k + 1))) := by
  rw [valD_take, Int.pow_add]; grind
theorem prod_next (xs ys : List Int) (i : Nat) : valD (xs.take i) * valD ys + 10 ^ i * (xs.getD i 0 * valD ys) = valD (xs.take (i + 1)) * valD ys := by
  rw [valD_take]; grind

/- quotients -/
theorem valD_dropM (xs : List Int) (i : Nat) (h : i < xs.length) : valD (xs.drop i) = xs.getD i 0 + 10 * valD (xs.drop (i + 1)) := by
  rw [List.drop_eq_getElem_cons h]
  simp [valD, List.getD, List.getElem?_eq_getElem h]
end Go.Proofs.Ytkgaoafcjhjefaa
