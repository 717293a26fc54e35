/-
  SbV: what Fresh answers, plainly: a name, that begins as it should, and that none of the terms has, if they have fewer than a hundred.
-/
import Derived.Test.YtaibmdikimpooaaDoorSbT
namespace Go.Proofs.YtaibmdikimpooaaDoor
open Go.RowKit

def by_ (s : ByteArray) : List UInt8 := s.data.toList
theorem by_inj {s u : ByteArray} (h : by_ s = by_ u) : s = u := by
  cases s; cases u
  simp only [by_] at h
  congr 1
  exact Array.toList_inj.1 h
theorem by_size (s : ByteArray) : (by_ s).length = s.size := by simp [by_]
theorem nameB_by (s : ByteArray) : nameB s = true ↔ (1 ≤ (by_ s).length ∧ (by_ s).length ≤ 16) ∧ letB (((by_ s).getD 0 0).toNat : Int) = true ∧ ∀ c ∈ by_ s, okB (c.toNat : Int) = true := by
  unfold nameB
  rw [by_size]
  simp only [Bool.and_eq_true, decide_eq_true_eq, List.all_eq_true, List.mem_range]
  constructor
  · rintro ⟨⟨⟨h1, h2⟩, h3⟩, h4⟩
    refine ⟨⟨h1, h2⟩, h3, fun c hc => ?_⟩
    obtain ⟨i, hi, rfl⟩ := List.mem_iff_getElem.1 hc
    have := h4 i (by rw [← by_size]; exact hi)
    unfold bt at this
    rw [List.getD_eq_getElem?_getD, List.getElem?_eq_getElem (show i < s.data.toList.length from hi)] at this
    exact this
  · rintro ⟨⟨h1, h2⟩, h3, h4⟩
    refine ⟨⟨⟨h1, h2⟩, h3⟩, fun i hi => ?_⟩
    have hi' : i < s.data.toList.length := by have := by_size s; unfold by_ at this; omega
    unfold bt
    rw [List.getD_eq_getElem?_getD, List.getElem?_eq_getElem hi']
    exact h4 _ (List.getElem_mem hi')
theorem by_ch {nm : ByteArray} {j : Nat} (hj : j ≠ 0) : by_ (chN nm j) = (by_ nm).take 13 ++ [95] ++ Lib.decDigits (j - 1) := by
  unfold chN hdN by_
  rw [if_neg hj]
  simp only [ByteArray.data_append, ByteArray.data_extract, Array.toList_append, Array.toList_extract]
  congr 2
  rw [List.extract_eq_take_drop, List.drop_zero, Nat.sub_zero]
  have e : nm.size = nm.data.toList.length := by simp
  rw [e]
  by_cases h : nm.data.toList.length ≤ 13
  · rw [Nat.min_eq_left h, List.take_length, List.take_of_length_le h]
  · rw [Nat.min_eq_right (by omega)]
theorem dec_ok : ∀ j, j < 100 → ∀ c ∈ Lib.decDigits j, okB (c.toNat : Int) = true := by
  intro j hj c hc
  by_cases h : j < 10
  · rw [Lib.decDigits_one h, List.mem_singleton] at hc
    subst hc
    have : ∀ j, j < 10 → okB ((UInt8.ofNat (48 + j)).toNat : Int) = true := by decide
    exact this j h
  · rw [Lib.decDigits_two h hj] at hc
    have h1 : ∀ j, j < 10 → okB ((UInt8.ofNat (48 + j)).toNat : Int) = true := by decide
    simp only [List.mem_cons, List.not_mem_nil, or_false] at hc
    rcases hc with rfl | rfl
    · exact h1 _ (by omega)
    · exact h1 _ (by omega)
theorem dec_inj {i j : Nat} (hi : i < 100) (hj : j < 100) (h : Lib.decDigits i = Lib.decDigits j) : i = j := by
  have h1 : ∀ a, a < 10 → ∀ b, b < 10 → UInt8.ofNat (48 + a) = UInt8.ofNat (48 + b) → a = b := by decide
  by_cases ci : i < 10 <;> by_cases cj : j < 10
  · rw [Lib.decDigits_one ci, Lib.decDigits_one cj] at h
    simp only [List.cons.injEq, and_true] at h
    exact h1 i ci j cj h
  · rw [Lib.decDigits_one ci, Lib.decDigits_two cj hj] at h
    simp at h
  · rw [Lib.decDigits_two ci hi, Lib.decDigits_one cj] at h
    simp at h
  · rw [Lib.decDigits_two ci hi, Lib.decDigits_two cj hj] at h
    simp only [List.cons.injEq, and_true] at h
    have a := h1 (i / 10) (by omega) (j / 10) (by omega) h.1
    have b := h1 (i % 10) (by omega) (j % 10) (by omega) h.2
    omega
theorem ch_name {nm : ByteArray} (h : nameB nm = true) {j : Nat} (hj : j < 101) : nameB (chN nm j) = true := by
  by_cases h0 : j = 0
  · rw [h0]; exact h
  rw [nameB_by] at h ⊢
  obtain ⟨⟨h1, h2⟩, h3, h4⟩ := h
  rw [by_ch h0]
  have hd := dec_len (j - 1) (by omega)
  have ht : ((by_ nm).take 13).length = min 13 (by_ nm).length := List.length_take
  refine ⟨⟨?_, ?_⟩, ?_, fun c hc => ?_⟩
  · simp only [List.length_append, ht, List.length_singleton]; omega
  · simp only [List.length_append, ht, List.length_singleton]; omega
  · have e : ((by_ nm).take 13 ++ [95] ++ Lib.decDigits (j - 1)).getD 0 0 = (by_ nm).getD 0 0 := by
      rw [List.getD_eq_getElem?_getD, List.getD_eq_getElem?_getD, List.append_assoc, List.getElem?_append_left (by rw [ht]; omega), List.getElem?_take_of_lt (by omega)]
    rw [e]; exact h3
  · rcases List.mem_append.1 hc with hc | hc
    · rcases List.mem_append.1 hc with hc | hc
      · exact h4 c (List.mem_of_mem_take hc)
      · rw [List.mem_singleton] at hc; subst hc; decide
    · exact dec_ok (j - 1) (by omega) c hc
/-- it begins as the name -/
theorem ch_begin (nm : ByteArray) (j : Nat) : min nm.size 13 ≤ (chN nm j).size ∧ (by_ (chN nm j)).take (min nm.size 13) = (by_ nm).take (min nm.size 13) := by
  by_cases h0 : j = 0
  · subst h0
    refine ⟨?_, rfl⟩
    show min nm.size 13 ≤ nm.size
    omega
  have ht : ((by_ nm).take 13).length = min 13 (by_ nm).length := List.length_take
  have hz := by_size nm
  refine ⟨?_, ?_⟩
  · rw [← by_size (chN nm j), by_ch h0]
    simp only [List.length_append, ht, List.length_singleton]; omega
  · rw [by_ch h0, List.append_assoc, List.take_append_of_le_length (by rw [ht]; omega), List.take_take]
    congr 1
    omega
/-- what it tries for a name -/
def ownN (nm : ByteArray) : ByteArray := if nameB nm then nm else xN
theorem ownN_name (nm : ByteArray) : nameB (ownN nm) = true := by
  unfold ownN
  split
  · assumption
  · kernel_rfl
theorem frS_choice (ts : List Tm) (nm : ByteArray) : ∃ j, j < 101 ∧ frS ts nm = chN (ownN nm) j := by
  show ∃ j, j < 101 ∧ frN ts (ownN nm) = chN (ownN nm) j
  generalize ownN nm = m
  unfold frN
  cases hf : ((List.range 101).map (chN m)).find? (noneB ts) with
  | none => exact ⟨100, by omega, rfl⟩
  | some y =>
    obtain ⟨j, hj, rfl⟩ := List.mem_map.1 (List.mem_of_find?_eq_some hf)
    exact ⟨j, List.mem_range.1 hj, rfl⟩
theorem ch_inj {nm : ByteArray} {i j : Nat} (hi : i < 100) (hj : j < 100) (h : chN nm (i + 1) = chN nm (j + 1)) : i = j := by
  have h1 : by_ (chN nm (i + 1)) = by_ (chN nm (j + 1)) := by rw [h]
  rw [by_ch (by omega), by_ch (by omega)] at h1
  exact dec_inj hi hj (List.append_cancel_left h1)
theorem pigeon {α : Type} [DecidableEq α] (g : Nat → α) : ∀ (n : Nat) (l : List α), (∀ i j, i < n → j < n → g i = g j → i = j) → (∀ i, i < n → g i ∈ l) → n ≤ l.length := by
  intro n
  induction n with
  | zero => intro l _ _; omega
  | succ n ih =>
    intro l hi hm
    have h1 := ih (l.erase (g n)) (fun i j a b => hi i j (by omega) (by omega)) (fun i a => by
      refine (List.mem_erase_of_ne ?_).2 (hm i (by omega))
      intro e
      have := hi i n (by omega) (by omega) e
      omega)
    have h2 := List.length_erase_of_mem (hm n (by omega))
    have h3 := List.length_pos_of_mem (hm n (by omega))
    omega
/-- where there are fewer than a hundred names, none of the terms has it -/
theorem fr_free {ts : List Tm} {all : List ByteArray} (nm : ByteArray) (ha : ∀ t ∈ ts, ∀ s : ByteArray, freeB t s = true → s ∈ all) (hn : all.length < 100) : noneB ts (frS ts nm) = true := by
  show noneB ts (frN ts (ownN nm)) = true
  generalize ownN nm = m
  unfold frN
  cases hf : ((List.range 101).map (chN m)).find? (noneB ts) with
  | some y => exact List.find?_some hf
  | none =>
    exfalso
    rw [List.find?_eq_none] at hf
    have h := pigeon (fun i => chN m (i + 1)) 100 all (fun i j hi hj e => ch_inj hi hj e) (fun i hi => by
      have h1 := hf (chN m (i + 1)) (List.mem_map.2 ⟨i + 1, List.mem_range.2 (by omega), rfl⟩)
      unfold noneB at h1
      rw [Bool.not_eq_true, List.all_eq_false] at h1
      obtain ⟨t, ht, h2⟩ := h1
      exact ha t ht _ (by simpa using h2))
    omega
end Go.Proofs.YtaibmdikimpooaaDoor
