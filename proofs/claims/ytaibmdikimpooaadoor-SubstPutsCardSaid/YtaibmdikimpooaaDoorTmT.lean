/-
  What the document's 'Deep' and 'Same' answer of any terms.
-/
import Derived.Test.YtaibmdikimpooaaDoorTmS
namespace Go.Proofs.YtaibmdikimpooaaDoor
open Go.RowKit

theorem deeps_take (l : List Tm) (k : Nat) (h : k < l.length) : Tm.deeps (l.take (k + 1)) = max (Tm.deeps (l.take k)) l[k].deep := by
  induction l generalizing k with
  | nil => simp at h
  | cons a l ih =>
    cases k with
    | zero => simp [Tm.deeps]
    | succ k =>
      simp only [List.take_succ_cons, Tm.deeps, List.getElem_cons_succ]
      rw [ih k (by simpa using h)]; omega

set_option maxRecDepth 100000 in
set_option maxHeartbeats 2000000 in
theorem rdeep_any : ∀ (t : Tm) (m : Nat) (w : World), 1 ≤ m → m ≤ 101 → TIn w w.heap.size t →
    Calls Tryd.prog 34 #[t.val, .int .i64 (m : Int)] w fun e w' => e = .returned (.int .i64 (min m t.deep : Nat)) ∧ Below w.heap.size w w' := by
  intro t
  induction t using Tm.ind with
  | h t ih =>
    intro m w hm1 hm2 ht
    have IH := mkHid ih
    clear ih
    have hlt := ht.nums.2.2.2
    unfold maxLen at hlt
    have HT := mkHid ht
    clear ht
    have B0 := bel_alloc w (boxT t)
    have F1 := box_four w t
    have hd1 : 1 ≤ t.deep := by rw [Tm.deep_eq]; omega
    have HD := mkHid (Tm.deep_eq t)
    have hW2 : w.alloc (.cells #[.int .i64 t.op, .string t.nm, .int .i64 t.n, .slice t.a t.ks.length t.c] 24) = w.alloc (boxT t) := rfl
    generalize w.alloc (boxT t) = W2 at *
    unfold Tm.val
    by_cases h1 : m = 1
    · subst h1
      have e1 : Hid (min 1 t.deep = 1) := by show _ = _; omega
      rw [e1.out]
      clear e1
      go_enter Tryd.func34, Tryd.ntmps34
      go_wp2
      go_ret
      exact ⟨rfl, B0⟩
    · have e1 : ((m : Int) == 1) = false := by rw [beq_eq_false_iff_ne]; omega
      obtain ⟨x0, x1, x2, x3⟩ := id F1
      simp only [Nat.zero_add] at x1 x2 x3
      generalize hn' : t.ks.length = n at *
      have HN := mkHid hn'
      clear hn'
      have hn : n ≤ 9223372036854775807 := by omega
      generalize hR' : min m t.deep = R
      have HR := mkHid hR'
      clear hR'
      go_enter Tryd.func34, Tryd.ntmps34
      go_wp2
      clear x0 x1 x2 x3 hW2
      go_loopw [5, 6] (fun d i w' => ∃ (k : Nat) (x y : Int) (dd : Nat), i = .int .i64 x ∧ x = k ∧ k ≤ n ∧ d = .int .i64 y ∧ y = dd ∧ dd ≤ 100 ∧ Hid (dd = min (m - 1) (Tm.deeps (t.ks.take k))) ∧ Below W2.heap.size W2 w') (fun _ i _ => (n - intOf i).toNat)
      case atStart => exact ⟨0, 0, 0, 0, rfl, rfl, Nat.zero_le _, rfl, rfl, by omega, by show (0 : Nat) = min _ (Tm.deeps []); simp [Tm.deeps], Below.refl _ _⟩
      case round =>
        obtain ⟨k, x, y, dd, rfl, hxk, hk, rfl, hyd, hd100, hdd, hb⟩ := hrel
        obtain rfl : x = (k : Int) := hxk
        obtain rfl : y = (dd : Int) := hyd
        have BB := bon B0 hb
        have x3 := (F1.later hb).2.2.2
        simp only [Nat.zero_add] at x3
        rw [HN.out] at x3
        by_cases hlt2 : k < n
        · have hk1 : k < t.ks.length := by rw [HN.out]; exact hlt2
          obtain ⟨kin1, b1, o1, ha1, hB1, kf1⟩ := HT.out.kid k hk1
          have C := mkHid (IH.out t.ks[k] (List.getElem_mem _) (m - 1) wr (by omega) (by omega) (kin1.later BB))
          have q1 := kf1.keep BB hB1
          have HS := mkHid (deeps_take t.ks k hk1)
          rw [ha1] at x3
          clear kf1 kin1 ha1 IH
          generalize t.ks[k] = p at *
          clear hk1
          obtain ⟨q10, q11, q12, q13⟩ := q1
          unfold Tm.val at C
          have em : ((m - 1 : Nat) : Int) = (m : Int) - 1 := by omega
          rw [em] at C
          clear em
          generalize hpd : min (m - 1) p.deep = pd at *
          have HPD := mkHid hpd
          have hpd100 : pd ≤ 100 := by omega
          clear hpd
          go_wp2_with fail
          ((with_reducible refine C.out.mono ?_)); rintro e w5 ⟨rfl, hb5⟩
          have B5 := bon hb hb5
          go_wp2
          go_roundw
          case rel => exact ⟨k + 1, _, _, max dd pd, rfl, by omega, by omega, rfl, by omega, by omega, (by show _ = _; rw [HS.out, hdd.out, ← HPD.out]; omega), B5⟩
          case measure => simp [intOf]; omega
        · have hRd : (dd : Int) + 1 = (R : Int) := by
            have h1 := hdd.out
            rw [List.take_of_length_le (by rw [HN.out]; omega)] at h1
            have h2 := HR.out
            have h3 := HD.out
            omega
          have HRD := mkHid hRd
          clear hRd hdd
          go_wp2
          go_ret
          exact ⟨ret_int HRD.out, BB⟩
theorem rDeep_any (t : Tm) (w : World) (ht : TIn w w.heap.size t) :
    Calls Tryd.prog 12 #[t.val] w fun e w' => e = .returned (.int .i64 (min 101 t.deep : Nat)) ∧ Below w.heap.size w w' := by
  have B0 := bel_alloc w (boxT t)
  have C := mkHid (rdeep_any t 101 _ (by omega) (by omega) (ht.later B0))
  obtain ⟨x0, x1, x2, x3⟩ := box_four w t
  simp only [Nat.zero_add] at x1 x2 x3
  have hW2 : w.alloc (.cells #[.int .i64 t.op, .string t.nm, .int .i64 t.n, .slice t.a t.ks.length t.c] 24) = w.alloc (boxT t) := rfl
  generalize w.alloc (boxT t) = W2 at *
  unfold Tm.val at C ⊢
  rw [show ((101 : Nat) : Int) = 101 from rfl] at C
  generalize min 101 t.deep = md at *
  clear ht
  go_enter Tryd.func12, Tryd.ntmps12
  go_wp2_with fail
  ((with_reducible refine C.out.mono ?_)); rintro e w5 ⟨rfl, hb5⟩
  go_wp2
  go_ret
  exact ⟨rfl, bon B0 hb5⟩
set_option maxRecDepth 100000 in
set_option maxHeartbeats 2000000 in
theorem rSame_any (t u : Tm) (w : World) (ht : TIn w w.heap.size t) (hu : TIn w w.heap.size u) :
    Calls Tryd.prog 17 #[t.val, u.val] w fun e w' => e = .returned (.bool (decide (t.deep ≤ 100) && decide (u.deep ≤ 100) && eqT t u)) ∧ Below w.heap.size w w' := by
  have B0 : Below w.heap.size w ((w.alloc (boxT t)).alloc (boxT u)) := bal (bal (Below.refl _ _) _) _
  have F1 : Four ((w.alloc (boxT t)).alloc (boxT u)) w.heap.size 0 t := (box_four w t).later (bel_alloc _ _)
  have F2 : Four ((w.alloc (boxT t)).alloc (boxT u)) (w.heap.size + 1) 0 u := by have := box_four (w.alloc (boxT t)) u; simpa using this
  have HT := mkHid (ht.later B0)
  have HU := mkHid (hu.later B0)
  have DT := mkHid (fun w' (h : TIn w' w'.heap.size t) => rDeep_any t w' h)
  have DU := mkHid (fun w' (h : TIn w' w'.heap.size u) => rDeep_any u w' h)
  have SM := mkHid (fun w' (h : TIn w' w'.heap.size t) (h' : TIn w' w'.heap.size u) => rsame_any t u w' h h')
  have hW2 : (w.alloc (.cells #[.int .i64 t.op, .string t.nm, .int .i64 t.n, .slice t.a t.ks.length t.c] 24)).alloc (.cells #[.int .i64 u.op, .string u.nm, .int .i64 u.n, .slice u.a u.ks.length u.c] 24) = (w.alloc (boxT t)).alloc (boxT u) := rfl
  generalize (w.alloc (boxT t)).alloc (boxT u) = W2 at *
  clear ht hu
  generalize eqT t u = R at *
  obtain ⟨x0, x1, x2, x3⟩ := id F1
  simp only [Nat.zero_add] at x1 x2 x3
  unfold Tm.val at DT DU SM ⊢
  by_cases h1 : t.deep ≤ 100
  · have q1 : decide (((min 101 t.deep : Nat) : Int) ≤ 100) = true := decide_eq_true (by omega)
    have d1 : decide (t.deep ≤ 100) = true := decide_eq_true h1
    rw [d1]
    generalize min 101 t.deep = mt at *
    clear h1 d1
    by_cases h2 : u.deep ≤ 100
    · have q2 : decide (((min 101 u.deep : Nat) : Int) ≤ 100) = true := decide_eq_true (by omega)
      have d2 : decide (u.deep ≤ 100) = true := decide_eq_true h2
      rw [d2]
      generalize min 101 u.deep = mu at *
      clear h2 d2
      go_enter Tryd.func17, Tryd.ntmps17
      go_wp2_with fail
      ((with_reducible refine (DT.out _ HT.out).mono ?_)); rintro e w3 ⟨rfl, hb3⟩
      clear x0 x1 x2 x3 hW2 DT
      obtain ⟨y0, y1, y2, y3⟩ := F2.later hb3
      simp only [Nat.zero_add] at y1 y2 y3
      go_wp2_with fail
      ((with_reducible refine (DU.out _ (HU.out.later hb3)).mono ?_)); rintro e w4 ⟨rfl, hb4⟩
      clear y0 y1 y2 y3 DU
      obtain ⟨x0, x1, x2, x3⟩ := F1.later (bon hb3 hb4)
      obtain ⟨y0, y1, y2, y3⟩ := F2.later (bon hb3 hb4)
      simp only [Nat.zero_add] at x1 x2 x3 y1 y2 y3
      go_wp2_with fail
      ((with_reducible refine (SM.out _ (HT.out.later (bon hb3 hb4)) (HU.out.later (bon hb3 hb4))).mono ?_)); rintro e w5 ⟨rfl, hb5⟩
      go_wp2
      go_ret
      exact ⟨rfl, bon B0 (bon (bon hb3 hb4) hb5)⟩
    · have q2 : decide (((min 101 u.deep : Nat) : Int) ≤ 100) = false := decide_eq_false (by omega)
      have d2 : decide (u.deep ≤ 100) = false := decide_eq_false h2
      rw [d2]
      generalize min 101 u.deep = mu at *
      clear h2 d2
      go_enter Tryd.func17, Tryd.ntmps17
      go_wp2_with fail
      ((with_reducible refine (DT.out _ HT.out).mono ?_)); rintro e w3 ⟨rfl, hb3⟩
      clear x0 x1 x2 x3 hW2 DT
      obtain ⟨y0, y1, y2, y3⟩ := F2.later hb3
      simp only [Nat.zero_add] at y1 y2 y3
      go_wp2_with fail
      ((with_reducible refine (DU.out _ (HU.out.later hb3)).mono ?_)); rintro e w4 ⟨rfl, hb4⟩
      go_wp2
      go_ret
      exact ⟨rfl, bon B0 (bon hb3 hb4)⟩
  · have q1 : decide (((min 101 t.deep : Nat) : Int) ≤ 100) = false := decide_eq_false (by omega)
    have d1 : decide (t.deep ≤ 100) = false := decide_eq_false h1
    rw [d1]
    generalize min 101 t.deep = mt at *
    clear h1 d1
    go_enter Tryd.func17, Tryd.ntmps17
    go_wp2_with fail
    ((with_reducible refine (DT.out _ HT.out).mono ?_)); rintro e w3 ⟨rfl, hb3⟩
    go_wp2
    go_ret
    exact ⟨rfl, bon B0 hb3⟩
end Go.Proofs.YtaibmdikimpooaaDoor
