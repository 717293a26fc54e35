/-
  What the document's 'Size' answers of any term.
-/
import Derived.Test.YtaibmdikimpooaaDoorTmH
namespace Go.Proofs.YtaibmdikimpooaaDoor
open Go.RowKit

set_option maxRecDepth 100000 in
set_option maxHeartbeats 2000000 in
theorem rleft_any : ∀ (t : Tm) (m : Nat) (w : World), m ≤ 2001 → TIn w w.heap.size t →
    Calls Tryd.prog 31 #[t.val, .int .i64 (m : Int)] w fun e w' => e = .returned (.int .i64 (m - t.size : Nat)) ∧ Below w.heap.size w w' := by
  intro t
  induction t using Tm.ind with
  | h t ih =>
    intro m w hm2 ht
    have IH := mkHid ih
    clear ih
    have hlt := ht.nums.2.2.2
    unfold maxLen at hlt
    have HT := mkHid ht
    clear ht
    have B0 := bel_alloc w (boxT t)
    have F1 := box_four w t
    have HD := mkHid (Tm.size_eq t)
    have hW2 : w.alloc (.cells #[.int .i64 t.op, .string t.nm, .int .i64 t.n, .slice t.a t.ks.length t.c] 24) = w.alloc (boxT t) := rfl
    generalize w.alloc (boxT t) = W2 at *
    unfold Tm.val
    by_cases h1 : m = 0
    · subst h1
      rw [Nat.zero_sub]
      go_enter Tryd.func31, Tryd.ntmps31
      go_wp2
      go_ret
      exact ⟨rfl, B0⟩
    · have e1 : ((m : Int) == 0) = false := by rw [beq_eq_false_iff_ne]; omega
      obtain ⟨x0, x1, x2, x3⟩ := id F1
      simp only [Nat.zero_add] at x1 x2 x3
      generalize hn' : t.ks.length = n at *
      have HN := mkHid hn'
      clear hn'
      have hn : n ≤ 9223372036854775807 := by omega
      generalize hR' : m - t.size = R
      have HR := mkHid hR'
      clear hR'
      go_enter Tryd.func31, Tryd.ntmps31
      go_wp2
      clear x0 x1 x2 x3 hW2
      go_loopw [1, 5] (fun d i w' => ∃ (k : Nat) (x y : Int) (dd : Nat), i = .int .i64 x ∧ x = k ∧ k ≤ n ∧ d = .int .i64 y ∧ y = dd ∧ dd ≤ 2000 ∧ Hid (dd = m - 1 - Tm.sizes (t.ks.take k)) ∧ Below W2.heap.size W2 w') (fun _ i _ => (n - intOf i).toNat)
      case atStart => exact ⟨0, 0, _, m - 1, rfl, rfl, Nat.zero_le _, rfl, by omega, by omega, by show _ = _ - Tm.sizes []; simp [Tm.sizes], Below.refl _ _⟩
      case round =>
        obtain ⟨k, x, y, dd, rfl, hxk, hk, rfl, hyd, hd100, hdd, hb⟩ := hrel
        obtain rfl : x = (k : Int) := hxk
        obtain rfl : y = (dd : Int) := hyd
        have BB := bon B0 hb
        have x3 := (F1.later hb).2.2.2
        simp only [Nat.zero_add] at x3
        rw [HN.out] at x3
        by_cases hlt2 : k < n
        · by_cases h0 : dd = 0
          · have hRd : R = 0 := by
              have h1 := hdd.out
              have h2 := HR.out
              have h3 := HD.out
              have h4 := sizes_take_le t.ks k
              omega
            subst hRd h0
            clear hdd HR
            go_wp2
            go_ret
            exact ⟨rfl, BB⟩
          · have hk1 : k < t.ks.length := by rw [HN.out]; exact hlt2
            have d0 : 0 < dd := by omega
            have d1 : (0 : Int) < (dd : Int) := by omega
            obtain ⟨kin1, b1, o1, ha1, hB1, kf1⟩ := HT.out.kid k hk1
            have C := mkHid (IH.out t.ks[k] (List.getElem_mem _) dd wr (by omega) (kin1.later BB))
            have q1 := kf1.keep BB hB1
            have HS := mkHid (take_succ_sizes t.ks k hk1)
            rw [ha1] at x3
            clear kf1 kin1 ha1 IH
            generalize t.ks[k] = p at *
            clear hk1
            obtain ⟨q10, q11, q12, q13⟩ := q1
            unfold Tm.val at C
            generalize hpd : dd - p.size = pd at *
            have HPD := mkHid hpd
            have hpd100 : pd ≤ 2000 := by omega
            clear hpd
            go_wp2_with fail
            ((with_reducible refine C.out.mono ?_)); rintro e w5 ⟨rfl, hb5⟩
            have B5 := bon hb hb5
            go_wp2
            go_roundw
            case rel => exact ⟨k + 1, _, _, pd, rfl, by omega, by omega, rfl, by omega, by omega, (by show _ = _; rw [HS.out, ← HPD.out, hdd.out]; omega), B5⟩
            case measure => simp [intOf]; omega
        · have hRd : R = dd := by
            have h1 := hdd.out
            rw [List.take_of_length_le (by rw [HN.out]; omega)] at h1
            have h2 := HR.out
            have h3 := HD.out
            omega
          subst hRd
          clear hdd HR
          go_wp2
          go_ret
          exact ⟨rfl, BB⟩
set_option maxRecDepth 100000 in
theorem rSize_any (t : Tm) (w : World) (ht : TIn w w.heap.size t) :
    Calls Tryd.prog 10 #[t.val] w fun e w' => e = .returned (.int .i64 (min 2001 t.size : Nat)) ∧ Below w.heap.size w w' := by
  have B0 := bel_alloc w (boxT t)
  have C := mkHid (rleft_any t 2001 _ (by omega) (ht.later B0))
  obtain ⟨x0, x1, x2, x3⟩ := box_four w t
  simp only [Nat.zero_add] at x1 x2 x3
  have hW2 : w.alloc (.cells #[.int .i64 t.op, .string t.nm, .int .i64 t.n, .slice t.a t.ks.length t.c] 24) = w.alloc (boxT t) := rfl
  generalize w.alloc (boxT t) = W2 at *
  unfold Tm.val at C ⊢
  rw [show ((2001 : Nat) : Int) = 2001 from rfl] at C
  have hr : (2001 : Int) - ((2001 - t.size : Nat) : Int) = ((min 2001 t.size : Nat) : Int) := by omega
  have HR := mkHid hr
  have hle : 2001 - t.size ≤ 2001 := by omega
  generalize 2001 - t.size = md at *
  clear ht hr
  go_enter Tryd.func10, Tryd.ntmps10
  go_wp2_with fail
  ((with_reducible refine C.out.mono ?_)); rintro e w5 ⟨rfl, hb5⟩
  go_wp2
  go_ret
  exact ⟨ret_int HR.out, bon B0 hb5⟩
end Go.Proofs.YtaibmdikimpooaaDoor
