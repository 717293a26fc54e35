/-
  What the document's 'Var' and 'shape' answer.
-/
import Derived.Test.YtaibmdikimpooaaDoorTmG
namespace Go.Proofs.YtaibmdikimpooaaDoor
open Go.RowKit

/-- an operation's sort, and those of what it has, by the document -/
def dShape (op : Int) : Nat × List Int :=
  if op = 1 then (1, [])
  else if op = 2 then (1, [])
  else if op = 3 then (1, [2])
  else if op = 4 then (1, [1, 1])
  else if op = 5 then (1, [1, 1])
  else if op = 6 then (1, [1])
  else if op = 7 then (2, [])
  else if op = 8 then (2, [])
  else if op = 9 then (2, [])
  else if op = 10 then (2, [3])
  else if op = 11 then (2, [2, 2])
  else if op = 12 then (2, [2, 2])
  else if op = 13 then (2, [2, 2])
  else if op = 14 then (3, [])
  else if op = 15 then (4, [])
  else if op = 16 then (4, [])
  else if op = 17 then (4, [])
  else if op = 18 then (4, [4])
  else if op = 19 then (4, [-1])
  else if op = 20 then (4, [-1])
  else if op = 21 then (4, [4, 4])
  else if op = 22 then (4, [1, 1])
  else if op = 23 then (4, [1, 1])
  else if op = 24 then (4, [1, 1])
  else if op = 25 then (4, [3, 2])
  else if op = 26 then (4, [2, 2])
  else if op = 27 then (4, [2, 2])
  else if op = 28 then (4, [3, 3])
  else (0, [])
/-- ints lie in memory -/
def IIn (w : World) (a : Option Addr) (l : List Int) : Prop := ∀ j (h : j < l.length), ∃ b o, a = some ⟨b, o, none⟩ ∧ b < w.heap.size ∧ w.cell? ⟨b, o + j, none⟩ = some (.int .i64 l[j])
def RetSh (r : Nat × List Int) (w : World) (e : Ending) (w' : World) : Prop := ∃ a c, e = .returned (.tuple #[.int .i64 (r.1 : Int), .slice a r.2.length c]) ∧ IIn w' a r.2 ∧ Below w.heap.size w w'
theorem iin_nil (w : World) (a : Option Addr) : IIn w a [] := fun j h => by simp at h
theorem iin_one (w : World) (x : Int) : IIn (w.alloc (.cells #[.int .i64 x] 3)) (some ⟨w.heap.size, 0, none⟩) [x] := fun j h => by
  have : j = 0 := by simp at h; omega
  subst this
  exact ⟨_, _, rfl, by simp, by simp [go_sem]⟩
theorem iin_two (w : World) (x y : Int) : IIn (w.alloc (.cells #[.int .i64 x, .int .i64 y] 3)) (some ⟨w.heap.size, 0, none⟩) [x, y] := fun j h => by
  have : j = 0 ∨ j = 1 := by simp at h; omega
  rcases this with rfl | rfl
  · exact ⟨_, _, rfl, by simp, by simp [go_sem]⟩
  · exact ⟨_, _, rfl, by simp, by simp [go_sem]⟩
theorem shape_1 (w : World) : Calls Tryd.prog 54 #[.int .i64 1] w (RetSh (1, []) w) := by
  go_enter Tryd.func54, Tryd.ntmps54
  go_wp2
  refine bodyPost_ret (v := .tuple #[.int .i64 1, .slice none 0 0]) (by simp [results, Tryd.results54, go_sem]) rfl ⟨none, 0, rfl, iin_nil _ _, Below.refl _ _⟩
theorem shape_2 (w : World) : Calls Tryd.prog 54 #[.int .i64 2] w (RetSh (1, []) w) := by
  go_enter Tryd.func54, Tryd.ntmps54
  go_wp2
  refine bodyPost_ret (v := .tuple #[.int .i64 1, .slice none 0 0]) (by simp [results, Tryd.results54, go_sem]) rfl ⟨none, 0, rfl, iin_nil _ _, Below.refl _ _⟩
theorem shape_3 (w : World) : Calls Tryd.prog 54 #[.int .i64 3] w (RetSh (1, [2]) w) := by
  go_enter Tryd.func54, Tryd.ntmps54
  go_wp2
  refine bodyPost_ret (v := .tuple #[.int .i64 1, .slice (some ⟨w.heap.size, 0, none⟩) 1 1]) (by simp [results, Tryd.results54, go_sem]) rfl ⟨some ⟨w.heap.size, 0, none⟩, 1, rfl, iin_one w _, bal (Below.refl _ _) _⟩
theorem shape_4 (w : World) : Calls Tryd.prog 54 #[.int .i64 4] w (RetSh (1, [1, 1]) w) := by
  go_enter Tryd.func54, Tryd.ntmps54
  go_wp2
  refine bodyPost_ret (v := .tuple #[.int .i64 1, .slice (some ⟨w.heap.size, 0, none⟩) 2 2]) (by simp [results, Tryd.results54, go_sem]) rfl ⟨some ⟨w.heap.size, 0, none⟩, 2, rfl, iin_two w _ _, bal (Below.refl _ _) _⟩
theorem shape_5 (w : World) : Calls Tryd.prog 54 #[.int .i64 5] w (RetSh (1, [1, 1]) w) := by
  go_enter Tryd.func54, Tryd.ntmps54
  go_wp2
  refine bodyPost_ret (v := .tuple #[.int .i64 1, .slice (some ⟨w.heap.size, 0, none⟩) 2 2]) (by simp [results, Tryd.results54, go_sem]) rfl ⟨some ⟨w.heap.size, 0, none⟩, 2, rfl, iin_two w _ _, bal (Below.refl _ _) _⟩
theorem shape_6 (w : World) : Calls Tryd.prog 54 #[.int .i64 6] w (RetSh (1, [1]) w) := by
  go_enter Tryd.func54, Tryd.ntmps54
  go_wp2
  refine bodyPost_ret (v := .tuple #[.int .i64 1, .slice (some ⟨w.heap.size, 0, none⟩) 1 1]) (by simp [results, Tryd.results54, go_sem]) rfl ⟨some ⟨w.heap.size, 0, none⟩, 1, rfl, iin_one w _, bal (Below.refl _ _) _⟩
theorem shape_7 (w : World) : Calls Tryd.prog 54 #[.int .i64 7] w (RetSh (2, []) w) := by
  go_enter Tryd.func54, Tryd.ntmps54
  go_wp2
  refine bodyPost_ret (v := .tuple #[.int .i64 2, .slice none 0 0]) (by simp [results, Tryd.results54, go_sem]) rfl ⟨none, 0, rfl, iin_nil _ _, Below.refl _ _⟩
theorem shape_8 (w : World) : Calls Tryd.prog 54 #[.int .i64 8] w (RetSh (2, []) w) := by
  go_enter Tryd.func54, Tryd.ntmps54
  go_wp2
  refine bodyPost_ret (v := .tuple #[.int .i64 2, .slice none 0 0]) (by simp [results, Tryd.results54, go_sem]) rfl ⟨none, 0, rfl, iin_nil _ _, Below.refl _ _⟩
theorem shape_9 (w : World) : Calls Tryd.prog 54 #[.int .i64 9] w (RetSh (2, []) w) := by
  go_enter Tryd.func54, Tryd.ntmps54
  go_wp2
  refine bodyPost_ret (v := .tuple #[.int .i64 2, .slice none 0 0]) (by simp [results, Tryd.results54, go_sem]) rfl ⟨none, 0, rfl, iin_nil _ _, Below.refl _ _⟩
theorem shape_10 (w : World) : Calls Tryd.prog 54 #[.int .i64 10] w (RetSh (2, [3]) w) := by
  go_enter Tryd.func54, Tryd.ntmps54
  go_wp2
  refine bodyPost_ret (v := .tuple #[.int .i64 2, .slice (some ⟨w.heap.size, 0, none⟩) 1 1]) (by simp [results, Tryd.results54, go_sem]) rfl ⟨some ⟨w.heap.size, 0, none⟩, 1, rfl, iin_one w _, bal (Below.refl _ _) _⟩
theorem shape_11 (w : World) : Calls Tryd.prog 54 #[.int .i64 11] w (RetSh (2, [2, 2]) w) := by
  go_enter Tryd.func54, Tryd.ntmps54
  go_wp2
  refine bodyPost_ret (v := .tuple #[.int .i64 2, .slice (some ⟨w.heap.size, 0, none⟩) 2 2]) (by simp [results, Tryd.results54, go_sem]) rfl ⟨some ⟨w.heap.size, 0, none⟩, 2, rfl, iin_two w _ _, bal (Below.refl _ _) _⟩
theorem shape_12 (w : World) : Calls Tryd.prog 54 #[.int .i64 12] w (RetSh (2, [2, 2]) w) := by
  go_enter Tryd.func54, Tryd.ntmps54
  go_wp2
  refine bodyPost_ret (v := .tuple #[.int .i64 2, .slice (some ⟨w.heap.size, 0, none⟩) 2 2]) (by simp [results, Tryd.results54, go_sem]) rfl ⟨some ⟨w.heap.size, 0, none⟩, 2, rfl, iin_two w _ _, bal (Below.refl _ _) _⟩
theorem shape_13 (w : World) : Calls Tryd.prog 54 #[.int .i64 13] w (RetSh (2, [2, 2]) w) := by
  go_enter Tryd.func54, Tryd.ntmps54
  go_wp2
  refine bodyPost_ret (v := .tuple #[.int .i64 2, .slice (some ⟨w.heap.size, 0, none⟩) 2 2]) (by simp [results, Tryd.results54, go_sem]) rfl ⟨some ⟨w.heap.size, 0, none⟩, 2, rfl, iin_two w _ _, bal (Below.refl _ _) _⟩
theorem shape_14 (w : World) : Calls Tryd.prog 54 #[.int .i64 14] w (RetSh (3, []) w) := by
  go_enter Tryd.func54, Tryd.ntmps54
  go_wp2
  refine bodyPost_ret (v := .tuple #[.int .i64 3, .slice none 0 0]) (by simp [results, Tryd.results54, go_sem]) rfl ⟨none, 0, rfl, iin_nil _ _, Below.refl _ _⟩
theorem shape_15 (w : World) : Calls Tryd.prog 54 #[.int .i64 15] w (RetSh (4, []) w) := by
  go_enter Tryd.func54, Tryd.ntmps54
  go_wp2
  refine bodyPost_ret (v := .tuple #[.int .i64 4, .slice none 0 0]) (by simp [results, Tryd.results54, go_sem]) rfl ⟨none, 0, rfl, iin_nil _ _, Below.refl _ _⟩
theorem shape_16 (w : World) : Calls Tryd.prog 54 #[.int .i64 16] w (RetSh (4, []) w) := by
  go_enter Tryd.func54, Tryd.ntmps54
  go_wp2
  refine bodyPost_ret (v := .tuple #[.int .i64 4, .slice none 0 0]) (by simp [results, Tryd.results54, go_sem]) rfl ⟨none, 0, rfl, iin_nil _ _, Below.refl _ _⟩
theorem shape_17 (w : World) : Calls Tryd.prog 54 #[.int .i64 17] w (RetSh (4, []) w) := by
  go_enter Tryd.func54, Tryd.ntmps54
  go_wp2
  refine bodyPost_ret (v := .tuple #[.int .i64 4, .slice none 0 0]) (by simp [results, Tryd.results54, go_sem]) rfl ⟨none, 0, rfl, iin_nil _ _, Below.refl _ _⟩
theorem shape_18 (w : World) : Calls Tryd.prog 54 #[.int .i64 18] w (RetSh (4, [4]) w) := by
  go_enter Tryd.func54, Tryd.ntmps54
  go_wp2
  refine bodyPost_ret (v := .tuple #[.int .i64 4, .slice (some ⟨w.heap.size, 0, none⟩) 1 1]) (by simp [results, Tryd.results54, go_sem]) rfl ⟨some ⟨w.heap.size, 0, none⟩, 1, rfl, iin_one w _, bal (Below.refl _ _) _⟩
theorem shape_19 (w : World) : Calls Tryd.prog 54 #[.int .i64 19] w (RetSh (4, [-1]) w) := by
  go_enter Tryd.func54, Tryd.ntmps54
  go_wp2
  refine bodyPost_ret (v := .tuple #[.int .i64 4, .slice (some ⟨w.heap.size, 0, none⟩) 1 1]) (by simp [results, Tryd.results54, go_sem]) rfl ⟨some ⟨w.heap.size, 0, none⟩, 1, rfl, iin_one w _, bal (Below.refl _ _) _⟩
theorem shape_20 (w : World) : Calls Tryd.prog 54 #[.int .i64 20] w (RetSh (4, [-1]) w) := by
  go_enter Tryd.func54, Tryd.ntmps54
  go_wp2
  refine bodyPost_ret (v := .tuple #[.int .i64 4, .slice (some ⟨w.heap.size, 0, none⟩) 1 1]) (by simp [results, Tryd.results54, go_sem]) rfl ⟨some ⟨w.heap.size, 0, none⟩, 1, rfl, iin_one w _, bal (Below.refl _ _) _⟩
theorem shape_21 (w : World) : Calls Tryd.prog 54 #[.int .i64 21] w (RetSh (4, [4, 4]) w) := by
  go_enter Tryd.func54, Tryd.ntmps54
  go_wp2
  refine bodyPost_ret (v := .tuple #[.int .i64 4, .slice (some ⟨w.heap.size, 0, none⟩) 2 2]) (by simp [results, Tryd.results54, go_sem]) rfl ⟨some ⟨w.heap.size, 0, none⟩, 2, rfl, iin_two w _ _, bal (Below.refl _ _) _⟩
theorem shape_22 (w : World) : Calls Tryd.prog 54 #[.int .i64 22] w (RetSh (4, [1, 1]) w) := by
  go_enter Tryd.func54, Tryd.ntmps54
  go_wp2
  refine bodyPost_ret (v := .tuple #[.int .i64 4, .slice (some ⟨w.heap.size, 0, none⟩) 2 2]) (by simp [results, Tryd.results54, go_sem]) rfl ⟨some ⟨w.heap.size, 0, none⟩, 2, rfl, iin_two w _ _, bal (Below.refl _ _) _⟩
theorem shape_23 (w : World) : Calls Tryd.prog 54 #[.int .i64 23] w (RetSh (4, [1, 1]) w) := by
  go_enter Tryd.func54, Tryd.ntmps54
  go_wp2
  refine bodyPost_ret (v := .tuple #[.int .i64 4, .slice (some ⟨w.heap.size, 0, none⟩) 2 2]) (by simp [results, Tryd.results54, go_sem]) rfl ⟨some ⟨w.heap.size, 0, none⟩, 2, rfl, iin_two w _ _, bal (Below.refl _ _) _⟩
theorem shape_24 (w : World) : Calls Tryd.prog 54 #[.int .i64 24] w (RetSh (4, [1, 1]) w) := by
  go_enter Tryd.func54, Tryd.ntmps54
  go_wp2
  refine bodyPost_ret (v := .tuple #[.int .i64 4, .slice (some ⟨w.heap.size, 0, none⟩) 2 2]) (by simp [results, Tryd.results54, go_sem]) rfl ⟨some ⟨w.heap.size, 0, none⟩, 2, rfl, iin_two w _ _, bal (Below.refl _ _) _⟩
theorem shape_25 (w : World) : Calls Tryd.prog 54 #[.int .i64 25] w (RetSh (4, [3, 2]) w) := by
  go_enter Tryd.func54, Tryd.ntmps54
  go_wp2
  refine bodyPost_ret (v := .tuple #[.int .i64 4, .slice (some ⟨w.heap.size, 0, none⟩) 2 2]) (by simp [results, Tryd.results54, go_sem]) rfl ⟨some ⟨w.heap.size, 0, none⟩, 2, rfl, iin_two w _ _, bal (Below.refl _ _) _⟩
theorem shape_26 (w : World) : Calls Tryd.prog 54 #[.int .i64 26] w (RetSh (4, [2, 2]) w) := by
  go_enter Tryd.func54, Tryd.ntmps54
  go_wp2
  refine bodyPost_ret (v := .tuple #[.int .i64 4, .slice (some ⟨w.heap.size, 0, none⟩) 2 2]) (by simp [results, Tryd.results54, go_sem]) rfl ⟨some ⟨w.heap.size, 0, none⟩, 2, rfl, iin_two w _ _, bal (Below.refl _ _) _⟩
theorem shape_27 (w : World) : Calls Tryd.prog 54 #[.int .i64 27] w (RetSh (4, [2, 2]) w) := by
  go_enter Tryd.func54, Tryd.ntmps54
  go_wp2
  refine bodyPost_ret (v := .tuple #[.int .i64 4, .slice (some ⟨w.heap.size, 0, none⟩) 2 2]) (by simp [results, Tryd.results54, go_sem]) rfl ⟨some ⟨w.heap.size, 0, none⟩, 2, rfl, iin_two w _ _, bal (Below.refl _ _) _⟩
theorem shape_28 (w : World) : Calls Tryd.prog 54 #[.int .i64 28] w (RetSh (4, [3, 3]) w) := by
  go_enter Tryd.func54, Tryd.ntmps54
  go_wp2
  refine bodyPost_ret (v := .tuple #[.int .i64 4, .slice (some ⟨w.heap.size, 0, none⟩) 2 2]) (by simp [results, Tryd.results54, go_sem]) rfl ⟨some ⟨w.heap.size, 0, none⟩, 2, rfl, iin_two w _ _, bal (Below.refl _ _) _⟩
theorem shape_no (op : Int) (w : World) (h : ¬ (1 ≤ op ∧ op ≤ 28)) : Calls Tryd.prog 54 #[.int .i64 op] w (RetSh (0, []) w) := by
  have d1 : (op == 1) = false := by rw [beq_eq_false_iff_ne]; omega
  have d2 : (op == 2) = false := by rw [beq_eq_false_iff_ne]; omega
  have d3 : (op == 3) = false := by rw [beq_eq_false_iff_ne]; omega
  have d4 : (op == 4) = false := by rw [beq_eq_false_iff_ne]; omega
  have d5 : (op == 5) = false := by rw [beq_eq_false_iff_ne]; omega
  have d6 : (op == 6) = false := by rw [beq_eq_false_iff_ne]; omega
  have d7 : (op == 7) = false := by rw [beq_eq_false_iff_ne]; omega
  have d8 : (op == 8) = false := by rw [beq_eq_false_iff_ne]; omega
  have d9 : (op == 9) = false := by rw [beq_eq_false_iff_ne]; omega
  have d10 : (op == 10) = false := by rw [beq_eq_false_iff_ne]; omega
  have d11 : (op == 11) = false := by rw [beq_eq_false_iff_ne]; omega
  have d12 : (op == 12) = false := by rw [beq_eq_false_iff_ne]; omega
  have d13 : (op == 13) = false := by rw [beq_eq_false_iff_ne]; omega
  have d14 : (op == 14) = false := by rw [beq_eq_false_iff_ne]; omega
  have d15 : (op == 15) = false := by rw [beq_eq_false_iff_ne]; omega
  have d16 : (op == 16) = false := by rw [beq_eq_false_iff_ne]; omega
  have d17 : (op == 17) = false := by rw [beq_eq_false_iff_ne]; omega
  have d18 : (op == 18) = false := by rw [beq_eq_false_iff_ne]; omega
  have d19 : (op == 19) = false := by rw [beq_eq_false_iff_ne]; omega
  have d20 : (op == 20) = false := by rw [beq_eq_false_iff_ne]; omega
  have d21 : (op == 21) = false := by rw [beq_eq_false_iff_ne]; omega
  have d22 : (op == 22) = false := by rw [beq_eq_false_iff_ne]; omega
  have d23 : (op == 23) = false := by rw [beq_eq_false_iff_ne]; omega
  have d24 : (op == 24) = false := by rw [beq_eq_false_iff_ne]; omega
  have d25 : (op == 25) = false := by rw [beq_eq_false_iff_ne]; omega
  have d26 : (op == 26) = false := by rw [beq_eq_false_iff_ne]; omega
  have d27 : (op == 27) = false := by rw [beq_eq_false_iff_ne]; omega
  have d28 : (op == 28) = false := by rw [beq_eq_false_iff_ne]; omega
  clear h
  go_enter Tryd.func54, Tryd.ntmps54
  go_wp2
  refine bodyPost_ret (v := .tuple #[.int .i64 0, .slice none 0 0]) (by simp [results, Tryd.results54, go_sem]) rfl ⟨none, 0, rfl, iin_nil _ _, Below.refl _ _⟩
theorem shape_any (op : Int) (w : World) : Calls Tryd.prog 54 #[.int .i64 op] w (RetSh (dShape op) w) := by
  by_cases h : 1 ≤ op ∧ op ≤ 28
  · rcases (show op = 1 ∨ op = 2 ∨ op = 3 ∨ op = 4 ∨ op = 5 ∨ op = 6 ∨ op = 7 ∨ op = 8 ∨ op = 9 ∨ op = 10 ∨ op = 11 ∨ op = 12 ∨ op = 13 ∨ op = 14 ∨ op = 15 ∨ op = 16 ∨ op = 17 ∨ op = 18 ∨ op = 19 ∨ op = 20 ∨ op = 21 ∨ op = 22 ∨ op = 23 ∨ op = 24 ∨ op = 25 ∨ op = 26 ∨ op = 27 ∨ op = 28 by omega) with rfl | rfl | rfl | rfl | rfl | rfl | rfl | rfl | rfl | rfl | rfl | rfl | rfl | rfl | rfl | rfl | rfl | rfl | rfl | rfl | rfl | rfl | rfl | rfl | rfl | rfl | rfl | rfl
    · exact shape_1 w
    · exact shape_2 w
    · exact shape_3 w
    · exact shape_4 w
    · exact shape_5 w
    · exact shape_6 w
    · exact shape_7 w
    · exact shape_8 w
    · exact shape_9 w
    · exact shape_10 w
    · exact shape_11 w
    · exact shape_12 w
    · exact shape_13 w
    · exact shape_14 w
    · exact shape_15 w
    · exact shape_16 w
    · exact shape_17 w
    · exact shape_18 w
    · exact shape_19 w
    · exact shape_20 w
    · exact shape_21 w
    · exact shape_22 w
    · exact shape_23 w
    · exact shape_24 w
    · exact shape_25 w
    · exact shape_26 w
    · exact shape_27 w
    · exact shape_28 w
  · have e : dShape op = (0, []) := by
      unfold dShape
      repeat rw [if_neg (by omega)]
    rw [e]; exact shape_no op w h
def varB (op : Int) : Bool := decide (op = 2) || decide (op = 7) || decide (op = 14) || decide (op = 15)
theorem var_any (op : Int) (w : World) : Calls Tryd.prog 55 #[.int .i64 op] w fun e w' => e = .returned (.bool (varB op)) ∧ w = w' := by
  by_cases h1 : op = 2
  · subst h1
    go_enter Tryd.func55, Tryd.ntmps55
    go_wp2
    go_ret
    exact ⟨rfl, rfl⟩
  · have d1 : (op == 2) = false := by rw [beq_eq_false_iff_ne]; exact h1
    by_cases h2 : op = 7
    · subst h2
      go_enter Tryd.func55, Tryd.ntmps55
      go_wp2
      go_ret
      exact ⟨rfl, rfl⟩
    · have d2 : (op == 7) = false := by rw [beq_eq_false_iff_ne]; exact h2
      by_cases h3 : op = 14
      · subst h3
        go_enter Tryd.func55, Tryd.ntmps55
        go_wp2
        go_ret
        exact ⟨rfl, rfl⟩
      · have d3 : (op == 14) = false := by rw [beq_eq_false_iff_ne]; exact h3
        by_cases h4 : op = 15
        · subst h4
          go_enter Tryd.func55, Tryd.ntmps55
          go_wp2
          go_ret
          exact ⟨rfl, rfl⟩
        · have d4 : (op == 15) = false := by rw [beq_eq_false_iff_ne]; exact h4
          have hv : varB op = false := by simp [varB, h1, h2, h3, h4]
          rw [hv]
          clear h1 h2 h3 h4 hv
          go_enter Tryd.func55, Tryd.ntmps55
          go_wp2
          go_ret
          exact ⟨rfl, rfl⟩
end Go.Proofs.YtaibmdikimpooaaDoor
