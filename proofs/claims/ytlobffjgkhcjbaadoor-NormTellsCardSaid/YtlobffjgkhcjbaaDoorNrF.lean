/-
  The document's is of norm.
-/
import Derived.Test.YtlobffjgkhcjbaaDoorNmN
namespace Go.Proofs.YtlobffjgkhcjbaaDoor
open Go.RowKit

set_option maxRecDepth 100000 in
set_option maxHeartbeats 1000000 in
theorem ris15 (t : Tm) (ho : t.op = 15) (w : World) : Calls Tryd.prog 70 #[t.val] w (RetBo (plB t) w) := by
  have e : plB t = true := by rw [plB_eq, ho]; rfl
  rw [e]
  clear e
  obtain ⟨op, nm, n, a, c, ks⟩ := t
  simp only [Tm.op] at ho
  subst ho
  have B0 := bel_alloc w (.cells #[.int .i64 15, .string nm, .int .i64 n, .slice a ks.length c] 24)
  have x0 : (w.alloc (.cells #[.int .i64 15, .string nm, .int .i64 n, .slice a ks.length c] 24)).cell? ⟨w.heap.size, 0, none⟩ = some (.int .i64 15) := by simp [go_sem]
  unfold Tm.val
  simp only [Tm.op, Tm.nm, Tm.n, Tm.a, Tm.ks, Tm.c]
  generalize hW2 : w.alloc (.cells #[.int .i64 15, .string nm, .int .i64 n, .slice a ks.length c] 24) = W2 at *
  go_enter Tryd.func70, Tryd.ntmps70
  go_wp2
  go_ret
  exact ⟨rfl, B0⟩
set_option maxRecDepth 100000 in
set_option maxHeartbeats 1000000 in
theorem ris16 (t : Tm) (ho : t.op = 16) (w : World) : Calls Tryd.prog 70 #[t.val] w (RetBo (plB t) w) := by
  have e : plB t = true := by rw [plB_eq, ho]; rfl
  rw [e]
  clear e
  obtain ⟨op, nm, n, a, c, ks⟩ := t
  simp only [Tm.op] at ho
  subst ho
  have B0 := bel_alloc w (.cells #[.int .i64 16, .string nm, .int .i64 n, .slice a ks.length c] 24)
  have x0 : (w.alloc (.cells #[.int .i64 16, .string nm, .int .i64 n, .slice a ks.length c] 24)).cell? ⟨w.heap.size, 0, none⟩ = some (.int .i64 16) := by simp [go_sem]
  unfold Tm.val
  simp only [Tm.op, Tm.nm, Tm.n, Tm.a, Tm.ks, Tm.c]
  generalize hW2 : w.alloc (.cells #[.int .i64 16, .string nm, .int .i64 n, .slice a ks.length c] 24) = W2 at *
  go_enter Tryd.func70, Tryd.ntmps70
  go_wp2
  go_ret
  exact ⟨rfl, B0⟩
set_option maxRecDepth 100000 in
set_option maxHeartbeats 1000000 in
theorem ris17 (t : Tm) (ho : t.op = 17) (w : World) : Calls Tryd.prog 70 #[t.val] w (RetBo (plB t) w) := by
  have e : plB t = true := by rw [plB_eq, ho]; rfl
  rw [e]
  clear e
  obtain ⟨op, nm, n, a, c, ks⟩ := t
  simp only [Tm.op] at ho
  subst ho
  have B0 := bel_alloc w (.cells #[.int .i64 17, .string nm, .int .i64 n, .slice a ks.length c] 24)
  have x0 : (w.alloc (.cells #[.int .i64 17, .string nm, .int .i64 n, .slice a ks.length c] 24)).cell? ⟨w.heap.size, 0, none⟩ = some (.int .i64 17) := by simp [go_sem]
  unfold Tm.val
  simp only [Tm.op, Tm.nm, Tm.n, Tm.a, Tm.ks, Tm.c]
  generalize hW2 : w.alloc (.cells #[.int .i64 17, .string nm, .int .i64 n, .slice a ks.length c] 24) = W2 at *
  go_enter Tryd.func70, Tryd.ntmps70
  go_wp2
  go_ret
  exact ⟨rfl, B0⟩
set_option maxRecDepth 100000 in
set_option maxHeartbeats 1000000 in
theorem ris22 (t : Tm) (ho : t.op = 22) (w : World) : Calls Tryd.prog 70 #[t.val] w (RetBo (plB t) w) := by
  have e : plB t = true := by rw [plB_eq, ho]; rfl
  rw [e]
  clear e
  obtain ⟨op, nm, n, a, c, ks⟩ := t
  simp only [Tm.op] at ho
  subst ho
  have B0 := bel_alloc w (.cells #[.int .i64 22, .string nm, .int .i64 n, .slice a ks.length c] 24)
  have x0 : (w.alloc (.cells #[.int .i64 22, .string nm, .int .i64 n, .slice a ks.length c] 24)).cell? ⟨w.heap.size, 0, none⟩ = some (.int .i64 22) := by simp [go_sem]
  unfold Tm.val
  simp only [Tm.op, Tm.nm, Tm.n, Tm.a, Tm.ks, Tm.c]
  generalize hW2 : w.alloc (.cells #[.int .i64 22, .string nm, .int .i64 n, .slice a ks.length c] 24) = W2 at *
  go_enter Tryd.func70, Tryd.ntmps70
  go_wp2
  go_ret
  exact ⟨rfl, B0⟩
set_option maxRecDepth 100000 in
set_option maxHeartbeats 1000000 in
theorem ris21 (t : Tm) (ho : t.op = 21) (w : World) : Calls Tryd.prog 70 #[t.val] w (RetBo (plB t) w) := by
  have e : plB t = false := by rw [plB_eq, ho]; rfl
  rw [e]
  clear e
  obtain ⟨op, nm, n, a, c, ks⟩ := t
  simp only [Tm.op] at ho
  subst ho
  have B0 := bel_alloc w (.cells #[.int .i64 21, .string nm, .int .i64 n, .slice a ks.length c] 24)
  have x0 : (w.alloc (.cells #[.int .i64 21, .string nm, .int .i64 n, .slice a ks.length c] 24)).cell? ⟨w.heap.size, 0, none⟩ = some (.int .i64 21) := by simp [go_sem]
  unfold Tm.val
  simp only [Tm.op, Tm.nm, Tm.n, Tm.a, Tm.ks, Tm.c]
  generalize hW2 : w.alloc (.cells #[.int .i64 21, .string nm, .int .i64 n, .slice a ks.length c] 24) = W2 at *
  go_enter Tryd.func70, Tryd.ntmps70
  go_wp2
  go_ret
  exact ⟨rfl, B0⟩
set_option maxRecDepth 100000 in
set_option maxHeartbeats 1000000 in
theorem ris23 (t : Tm) (ho : t.op = 23) (w : World) : Calls Tryd.prog 70 #[t.val] w (RetBo (plB t) w) := by
  have e : plB t = false := by rw [plB_eq, ho]; rfl
  rw [e]
  clear e
  obtain ⟨op, nm, n, a, c, ks⟩ := t
  simp only [Tm.op] at ho
  subst ho
  have B0 := bel_alloc w (.cells #[.int .i64 23, .string nm, .int .i64 n, .slice a ks.length c] 24)
  have x0 : (w.alloc (.cells #[.int .i64 23, .string nm, .int .i64 n, .slice a ks.length c] 24)).cell? ⟨w.heap.size, 0, none⟩ = some (.int .i64 23) := by simp [go_sem]
  unfold Tm.val
  simp only [Tm.op, Tm.nm, Tm.n, Tm.a, Tm.ks, Tm.c]
  generalize hW2 : w.alloc (.cells #[.int .i64 23, .string nm, .int .i64 n, .slice a ks.length c] 24) = W2 at *
  go_enter Tryd.func70, Tryd.ntmps70
  go_wp2
  go_ret
  exact ⟨rfl, B0⟩
set_option maxRecDepth 100000 in
set_option maxHeartbeats 1000000 in
theorem ris24 (t : Tm) (ho : t.op = 24) (w : World) : Calls Tryd.prog 70 #[t.val] w (RetBo (plB t) w) := by
  have e : plB t = false := by rw [plB_eq, ho]; rfl
  rw [e]
  clear e
  obtain ⟨op, nm, n, a, c, ks⟩ := t
  simp only [Tm.op] at ho
  subst ho
  have B0 := bel_alloc w (.cells #[.int .i64 24, .string nm, .int .i64 n, .slice a ks.length c] 24)
  have x0 : (w.alloc (.cells #[.int .i64 24, .string nm, .int .i64 n, .slice a ks.length c] 24)).cell? ⟨w.heap.size, 0, none⟩ = some (.int .i64 24) := by simp [go_sem]
  unfold Tm.val
  simp only [Tm.op, Tm.nm, Tm.n, Tm.a, Tm.ks, Tm.c]
  generalize hW2 : w.alloc (.cells #[.int .i64 24, .string nm, .int .i64 n, .slice a ks.length c] 24) = W2 at *
  go_enter Tryd.func70, Tryd.ntmps70
  go_wp2
  go_ret
  exact ⟨rfl, B0⟩
set_option maxRecDepth 100000 in
set_option maxHeartbeats 1000000 in
theorem ris25 (t : Tm) (ho : t.op = 25) (w : World) : Calls Tryd.prog 70 #[t.val] w (RetBo (plB t) w) := by
  have e : plB t = false := by rw [plB_eq, ho]; rfl
  rw [e]
  clear e
  obtain ⟨op, nm, n, a, c, ks⟩ := t
  simp only [Tm.op] at ho
  subst ho
  have B0 := bel_alloc w (.cells #[.int .i64 25, .string nm, .int .i64 n, .slice a ks.length c] 24)
  have x0 : (w.alloc (.cells #[.int .i64 25, .string nm, .int .i64 n, .slice a ks.length c] 24)).cell? ⟨w.heap.size, 0, none⟩ = some (.int .i64 25) := by simp [go_sem]
  unfold Tm.val
  simp only [Tm.op, Tm.nm, Tm.n, Tm.a, Tm.ks, Tm.c]
  generalize hW2 : w.alloc (.cells #[.int .i64 25, .string nm, .int .i64 n, .slice a ks.length c] 24) = W2 at *
  go_enter Tryd.func70, Tryd.ntmps70
  go_wp2
  go_ret
  exact ⟨rfl, B0⟩
set_option maxRecDepth 100000 in
set_option maxHeartbeats 1000000 in
theorem ris26 (t : Tm) (ho : t.op = 26) (w : World) : Calls Tryd.prog 70 #[t.val] w (RetBo (plB t) w) := by
  have e : plB t = false := by rw [plB_eq, ho]; rfl
  rw [e]
  clear e
  obtain ⟨op, nm, n, a, c, ks⟩ := t
  simp only [Tm.op] at ho
  subst ho
  have B0 := bel_alloc w (.cells #[.int .i64 26, .string nm, .int .i64 n, .slice a ks.length c] 24)
  have x0 : (w.alloc (.cells #[.int .i64 26, .string nm, .int .i64 n, .slice a ks.length c] 24)).cell? ⟨w.heap.size, 0, none⟩ = some (.int .i64 26) := by simp [go_sem]
  unfold Tm.val
  simp only [Tm.op, Tm.nm, Tm.n, Tm.a, Tm.ks, Tm.c]
  generalize hW2 : w.alloc (.cells #[.int .i64 26, .string nm, .int .i64 n, .slice a ks.length c] 24) = W2 at *
  go_enter Tryd.func70, Tryd.ntmps70
  go_wp2
  go_ret
  exact ⟨rfl, B0⟩
set_option maxRecDepth 100000 in
set_option maxHeartbeats 1000000 in
theorem ris27 (t : Tm) (ho : t.op = 27) (w : World) : Calls Tryd.prog 70 #[t.val] w (RetBo (plB t) w) := by
  have e : plB t = false := by rw [plB_eq, ho]; rfl
  rw [e]
  clear e
  obtain ⟨op, nm, n, a, c, ks⟩ := t
  simp only [Tm.op] at ho
  subst ho
  have B0 := bel_alloc w (.cells #[.int .i64 27, .string nm, .int .i64 n, .slice a ks.length c] 24)
  have x0 : (w.alloc (.cells #[.int .i64 27, .string nm, .int .i64 n, .slice a ks.length c] 24)).cell? ⟨w.heap.size, 0, none⟩ = some (.int .i64 27) := by simp [go_sem]
  unfold Tm.val
  simp only [Tm.op, Tm.nm, Tm.n, Tm.a, Tm.ks, Tm.c]
  generalize hW2 : w.alloc (.cells #[.int .i64 27, .string nm, .int .i64 n, .slice a ks.length c] 24) = W2 at *
  go_enter Tryd.func70, Tryd.ntmps70
  go_wp2
  go_ret
  exact ⟨rfl, B0⟩
set_option maxRecDepth 100000 in
set_option maxHeartbeats 1000000 in
theorem ris28 (t : Tm) (ho : t.op = 28) (w : World) : Calls Tryd.prog 70 #[t.val] w (RetBo (plB t) w) := by
  have e : plB t = false := by rw [plB_eq, ho]; rfl
  rw [e]
  clear e
  obtain ⟨op, nm, n, a, c, ks⟩ := t
  simp only [Tm.op] at ho
  subst ho
  have B0 := bel_alloc w (.cells #[.int .i64 28, .string nm, .int .i64 n, .slice a ks.length c] 24)
  have x0 : (w.alloc (.cells #[.int .i64 28, .string nm, .int .i64 n, .slice a ks.length c] 24)).cell? ⟨w.heap.size, 0, none⟩ = some (.int .i64 28) := by simp [go_sem]
  unfold Tm.val
  simp only [Tm.op, Tm.nm, Tm.n, Tm.a, Tm.ks, Tm.c]
  generalize hW2 : w.alloc (.cells #[.int .i64 28, .string nm, .int .i64 n, .slice a ks.length c] 24) = W2 at *
  go_enter Tryd.func70, Tryd.ntmps70
  go_wp2
  go_ret
  exact ⟨rfl, B0⟩
set_option maxRecDepth 100000 in
set_option maxHeartbeats 1000000 in
theorem ris18 (t k0 : Tm) (ho : t.op = 18) (hks : t.ks = [k0]) (w : World) (ht : TIn w w.heap.size t) : Calls Tryd.prog 70 #[t.val] w (RetBo (plB t) w) := by
  have e : plB t = (decide (k0.op = 15) || decide (k0.op = 22)) := by rw [plB_eq, ho, hks]; rfl
  rw [e]
  clear e
  obtain ⟨p, hp⟩ : ∃ p, k0.op = p := ⟨_, rfl⟩
  rw [hp]
  obtain ⟨op, nm, n, a, c, ks⟩ := t
  simp only [Tm.op, Tm.ks] at ho hks
  subst ho hks
  obtain ⟨kin0, b, o, ha, hbl, kf0⟩ := ht.kid 0 (by simp [Tm.ks])
  simp only [Tm.a, Tm.ks, List.getElem_cons_zero, Nat.zero_mul, Nat.add_zero] at ha kin0 kf0
  subst ha
  have B0 := bel_alloc w (.cells #[.int .i64 18, .string nm, .int .i64 n, .slice (some ⟨b, o, none⟩) 1 c] 24)
  have x0 : (w.alloc (.cells #[.int .i64 18, .string nm, .int .i64 n, .slice (some ⟨b, o, none⟩) 1 c] 24)).cell? ⟨w.heap.size, 0, none⟩ = some (.int .i64 18) := by simp [go_sem]
  have x3 : (w.alloc (.cells #[.int .i64 18, .string nm, .int .i64 n, .slice (some ⟨b, o, none⟩) 1 c] 24)).cell? ⟨w.heap.size, 3, none⟩ = some (.slice (some ⟨b, o, none⟩) 1 c) := by simp [go_sem]
  unfold Tm.val
  simp only [Tm.op, Tm.nm, Tm.n, Tm.a, Tm.ks, Tm.c, List.length_cons, List.length_nil, Nat.zero_add]
  have q := (Four.keep kf0 B0 hbl).1
  rw [hp] at q
  clear hp
  generalize hW2 : w.alloc (.cells #[.int .i64 18, .string nm, .int .i64 n, .slice (some ⟨b, o, none⟩) 1 c] 24) = W2 at *
  clear kin0 kf0 ht
  by_cases h15 : p = 15
  · subst h15
    go_enter Tryd.func70, Tryd.ntmps70
    go_wp2
    go_ret
    exact ⟨rfl, B0⟩
  · have e15 : (p == 15) = false := by rw [beq_eq_false_iff_ne]; exact h15
    rw [decide_eq_false h15, Bool.false_or]
    by_cases h22 : p = 22
    · subst h22
      clear e15 h15
      go_enter Tryd.func70, Tryd.ntmps70
      go_wp2
      go_ret
      exact ⟨rfl, B0⟩
    · have e22 : (p == 22) = false := by rw [beq_eq_false_iff_ne]; exact h22
      rw [decide_eq_false h22]
      clear h15 h22
      go_enter Tryd.func70, Tryd.ntmps70
      go_wp2
      go_ret
      exact ⟨rfl, B0⟩
set_option maxRecDepth 100000 in
set_option maxHeartbeats 4000000 in
theorem ris19 (t : Tm) (ho : t.op = 19) (ih : ∀ k ∈ t.ks, ∀ w : World, TIn w w.heap.size k → Calls Tryd.prog 70 #[k.val] w (RetBo (plB k) w)) (w : World) (ht : TIn w w.heap.size t) : Calls Tryd.prog 70 #[t.val] w (RetBo (plB t) w) := by
  have hpe : plB t = t.ks.all plB := by rw [plB_eq, ho]; rfl
  rw [hpe]
  clear hpe
  have IH := mkHid ih
  have hlt := ht.nums.2.2.2
  unfold maxLen at hlt
  have HT := mkHid ht
  clear ih ht
  have B0 := bel_alloc w (boxT t)
  have F1 := box_four w t
  have hW2 : w.alloc (.cells #[.int .i64 19, .string t.nm, .int .i64 t.n, .slice t.a t.ks.length t.c] 24) = w.alloc (boxT t) := by unfold boxT; rw [ho]
  generalize w.alloc (boxT t) = W2 at *
  unfold Tm.val
  rw [ho]
  obtain ⟨x0, x1, x2, x3⟩ := id F1
  rw [ho] at x0
  clear ho
  simp only [Nat.zero_add] at x1 x2 x3
  generalize hn' : t.ks.length = n at *
  have HN := mkHid hn'
  clear hn'
  have hn : n ≤ 9223372036854775807 := by omega
  generalize hR' : t.ks.all plB = R
  have HR := mkHid hR'
  clear hR'
  go_enter Tryd.func70, Tryd.ntmps70
  go_wp2
  clear x0 x1 x2 x3 hW2
  go_loopw [3] (fun i w' => ∃ (k : Nat) (x : Int), i = .int .i64 x ∧ x = k ∧ k ≤ n ∧ Hid ((t.ks.take k).all plB = true) ∧ Below W2.heap.size W2 w') (fun i _ => (n - intOf i).toNat)
  case atStart => exact ⟨0, 0, rfl, rfl, Nat.zero_le _, rfl, Below.refl _ _⟩
  case round =>
    obtain ⟨k, x, rfl, hxk, hk, hdd, hb⟩ := hrel
    obtain rfl : x = (k : Int) := hxk
    have BB := bon B0 hb
    have x3 := (F1.later hb).2.2.2
    simp only [Nat.zero_add] at x3
    rw [HN.out] at x3
    by_cases hlt2 : k < n
    · have hk1 : k < t.ks.length := by rw [HN.out]; exact hlt2
      obtain ⟨kin1, b1, o1, ha1, hB1, kf1⟩ := HT.out.kid k hk1
      have C := mkHid (IH.out t.ks[k] (List.getElem_mem _) wr (kin1.later BB))
      have q1 := kf1.keep BB hB1
      have HS := mkHid (List.take_succ_eq_append_getElem hk1)
      have HM := mkHid (List.getElem_mem hk1)
      rw [ha1] at x3
      clear kf1 kin1 ha1 IH
      generalize t.ks[k] = p at *
      clear hk1
      obtain ⟨q10, q11, q12, q13⟩ := q1
      unfold Tm.val at C
      have hk2 : (k : Int) < (n : Int) := by omega
      generalize hpp : plB p = pb at *
      have HPP := mkHid hpp
      clear hpp
      cases pb with
      | true =>
        go_wp2_with fail
        ((with_reducible refine C.out.mono ?_)); rintro e w5 ⟨rfl, hb5⟩
        have B5 := bon hb hb5
        clear x3 q10 q11 q12 q13
        go_wp2
        go_roundw
        case rel => exact ⟨k + 1, _, rfl, by omega, by omega, (by show _ = _; rw [HS.out, List.all_append, hdd.out]; simp [HPP.out]), B5⟩
        case measure => simp [intOf]; omega
      | false =>
        have HF : Hid (R = false) := by
          show R = false
          rw [← HR.out, List.all_eq_false]
          exact ⟨p, HM.out, by rw [HPP.out]; simp⟩
        go_wp2_with fail
        ((with_reducible refine C.out.mono ?_)); rintro e w5 ⟨rfl, hb5⟩
        have B5 := bon BB hb5
        clear x3 q10 q11 q12 q13
        go_wp2
        go_ret
        exact ⟨by rw [HF.out]; rfl, B5⟩
    · have HF : Hid (R = true) := by
        show R = true
        have h1 := hdd.out
        rw [List.take_of_length_le (by rw [HN.out]; omega)] at h1
        rw [← HR.out]; exact h1
      go_wp2
      go_ret
      exact ⟨by rw [HF.out]; rfl, BB⟩
set_option maxRecDepth 100000 in
set_option maxHeartbeats 4000000 in
theorem ris20 (t : Tm) (ho : t.op = 20) (ih : ∀ k ∈ t.ks, ∀ w : World, TIn w w.heap.size k → Calls Tryd.prog 70 #[k.val] w (RetBo (plB k) w)) (w : World) (ht : TIn w w.heap.size t) : Calls Tryd.prog 70 #[t.val] w (RetBo (plB t) w) := by
  have hpe : plB t = t.ks.all plB := by rw [plB_eq, ho]; rfl
  rw [hpe]
  clear hpe
  have IH := mkHid ih
  have hlt := ht.nums.2.2.2
  unfold maxLen at hlt
  have HT := mkHid ht
  clear ih ht
  have B0 := bel_alloc w (boxT t)
  have F1 := box_four w t
  have hW2 : w.alloc (.cells #[.int .i64 20, .string t.nm, .int .i64 t.n, .slice t.a t.ks.length t.c] 24) = w.alloc (boxT t) := by unfold boxT; rw [ho]
  generalize w.alloc (boxT t) = W2 at *
  unfold Tm.val
  rw [ho]
  obtain ⟨x0, x1, x2, x3⟩ := id F1
  rw [ho] at x0
  clear ho
  simp only [Nat.zero_add] at x1 x2 x3
  generalize hn' : t.ks.length = n at *
  have HN := mkHid hn'
  clear hn'
  have hn : n ≤ 9223372036854775807 := by omega
  generalize hR' : t.ks.all plB = R
  have HR := mkHid hR'
  clear hR'
  go_enter Tryd.func70, Tryd.ntmps70
  go_wp2
  clear x0 x1 x2 x3 hW2
  go_loopw [3] (fun i w' => ∃ (k : Nat) (x : Int), i = .int .i64 x ∧ x = k ∧ k ≤ n ∧ Hid ((t.ks.take k).all plB = true) ∧ Below W2.heap.size W2 w') (fun i _ => (n - intOf i).toNat)
  case atStart => exact ⟨0, 0, rfl, rfl, Nat.zero_le _, rfl, Below.refl _ _⟩
  case round =>
    obtain ⟨k, x, rfl, hxk, hk, hdd, hb⟩ := hrel
    obtain rfl : x = (k : Int) := hxk
    have BB := bon B0 hb
    have x3 := (F1.later hb).2.2.2
    simp only [Nat.zero_add] at x3
    rw [HN.out] at x3
    by_cases hlt2 : k < n
    · have hk1 : k < t.ks.length := by rw [HN.out]; exact hlt2
      obtain ⟨kin1, b1, o1, ha1, hB1, kf1⟩ := HT.out.kid k hk1
      have C := mkHid (IH.out t.ks[k] (List.getElem_mem _) wr (kin1.later BB))
      have q1 := kf1.keep BB hB1
      have HS := mkHid (List.take_succ_eq_append_getElem hk1)
      have HM := mkHid (List.getElem_mem hk1)
      rw [ha1] at x3
      clear kf1 kin1 ha1 IH
      generalize t.ks[k] = p at *
      clear hk1
      obtain ⟨q10, q11, q12, q13⟩ := q1
      unfold Tm.val at C
      have hk2 : (k : Int) < (n : Int) := by omega
      generalize hpp : plB p = pb at *
      have HPP := mkHid hpp
      clear hpp
      cases pb with
      | true =>
        go_wp2_with fail
        ((with_reducible refine C.out.mono ?_)); rintro e w5 ⟨rfl, hb5⟩
        have B5 := bon hb hb5
        clear x3 q10 q11 q12 q13
        go_wp2
        go_roundw
        case rel => exact ⟨k + 1, _, rfl, by omega, by omega, (by show _ = _; rw [HS.out, List.all_append, hdd.out]; simp [HPP.out]), B5⟩
        case measure => simp [intOf]; omega
      | false =>
        have HF : Hid (R = false) := by
          show R = false
          rw [← HR.out, List.all_eq_false]
          exact ⟨p, HM.out, by rw [HPP.out]; simp⟩
        go_wp2_with fail
        ((with_reducible refine C.out.mono ?_)); rintro e w5 ⟨rfl, hb5⟩
        have B5 := bon BB hb5
        clear x3 q10 q11 q12 q13
        go_wp2
        go_ret
        exact ⟨by rw [HF.out]; rfl, B5⟩
    · have HF : Hid (R = true) := by
        show R = true
        have h1 := hdd.out
        rw [List.take_of_length_le (by rw [HN.out]; omega)] at h1
        rw [← HR.out]; exact h1
      go_wp2
      go_ret
      exact ⟨by rw [HF.out]; rfl, BB⟩
theorem ris_any : ∀ t : Tm, t.srt = 4 → ∀ w : World, TIn w w.heap.size t → Calls Tryd.prog 70 #[t.val] w (RetBo (plB t) w) := by
  refine bool_ind ?_ ?_ ?_ ?_ ?_ ?_ ?_ ?_ ?_ ?_ ?_ ?_ ?_ ?_
  · exact fun t _ ho _ w _ => ris15 t ho w
  · exact fun t _ ho _ _ w _ => ris16 t ho w
  · exact fun t _ ho _ _ w _ => ris17 t ho w
  · exact fun t u _ ho hk _ _ _ w h => ris18 t u ho hk w h
  · exact fun t _ ho _ _ ih w h => ris19 t ho ih w h
  · exact fun t _ ho _ _ ih w h => ris20 t ho ih w h
  · exact fun t _ _ _ ho _ _ _ _ _ _ w _ => ris21 t ho w
  · exact fun t _ _ _ ho _ _ _ _ w _ => ris22 t ho w
  · exact fun t _ _ _ ho _ _ _ w _ => ris23 t ho w
  · exact fun t _ _ _ ho _ _ _ w _ => ris24 t ho w
  · exact fun t _ _ _ ho _ _ _ w _ => ris25 t ho w
  · exact fun t _ _ _ ho _ _ _ w _ => ris26 t ho w
  · exact fun t _ _ _ ho _ _ _ w _ => ris27 t ho w
  · exact fun t _ _ _ ho _ _ _ w _ => ris28 t ho w
end Go.Proofs.YtlobffjgkhcjbaaDoor
