/-
  What the document's 'Name' answers.
-/
import Derived.Test.YtaibmdikimpooaaDoorTmF
namespace Go.Proofs.YtaibmdikimpooaaDoor
open Go.RowKit

set_option maxRecDepth 100000 in
set_option maxHeartbeats 1000000 in
theorem rletter_any (c : Int) (w : World) : Calls Tryd.prog 45 #[.int .u8 c] w fun e w' => e = .returned (.bool (letB c)) ∧ w = w' := by
  by_cases h1 : 65 ≤ c <;> by_cases h2 : c ≤ 90 <;> by_cases h3 : 97 ≤ c <;> by_cases h4 : c ≤ 122
  all_goals
    first
      | (exfalso; omega)
      | (have e : letB c = true := by (simp [letB]; omega)
         rw [e]
         clear e
         go_enter Tryd.func45, Tryd.ntmps45
         go_wp2
         go_ret
         exact ⟨rfl, rfl⟩)
      | (have e : letB c = false := by (simp [letB]; omega)
         rw [e]
         clear e
         go_enter Tryd.func45, Tryd.ntmps45
         go_wp2
         go_ret
         exact ⟨rfl, rfl⟩)
theorem toL_len (s : ByteArray) : s.toList.length = s.size := by rw [ByteArray.toList_eq]; simp
theorem rletter_at (c : Int) (b : Bool) (h : letB c = b) (w : World) : Calls Tryd.prog 45 #[.int .u8 c] w fun e w' => e = .returned (.bool b) ∧ w = w' := h ▸ rletter_any c w
set_option maxRecDepth 100000 in
set_option maxHeartbeats 2000000 in
theorem rName_any (s : ByteArray) (w : World) (hs : s.size ≤ maxLen) :
    Calls Tryd.prog 19 #[.string s] w fun e w' => e = .returned (.bool (nameB s)) ∧ w = w' := by
  unfold maxLen at hs
  by_cases h1 : 1 ≤ s.size ∧ s.size ≤ 16
  · obtain ⟨ha, hb⟩ := h1
    have hz : s.toList.isEmpty = false := by rw [List.isEmpty_eq_false_iff]; intro h; have := congrArg List.length h; rw [toL_len, List.length_nil] at this; omega
    have hz3 : (s.toList == []) = false := by cases hh : s.toList; · rw [hh] at hz; cases hz
                                              · rfl
    have hz1 : decide (16 < (s.size : Int)) = false := decide_eq_false (by omega)
    have hl := bt_get s 0 (by omega)
    cases hL : letB (bt s 0)
    · have e : nameB s = false := by simp [nameB, hL]
      rw [e]
      clear e
      rw [← hl] at hL
      have LT := mkHid (rletter_at _ _ hL)
      clear hL hl
      go_enter Tryd.func19, Tryd.ntmps19
      go_wp2_with (go_at_call 45; refine (LT.out _).mono ?_; rintro e w1 ⟨rfl, rfl⟩)
      go_ret
      exact ⟨rfl, rfl⟩
    · have e : nameB s = (List.range s.size).all (fun i => okB (bt s i)) := by
        unfold nameB; rw [hL, decide_eq_true ha, decide_eq_true hb]; rfl
      rw [e]
      clear e
      rw [← hl] at hL
      have LT := mkHid (rletter_at _ _ hL)
      clear hL hl
      generalize hR : (List.range s.size).all (fun i => okB (bt s i)) = R
      have HR := mkHid hR
      clear hR
      go_enter Tryd.func19, Tryd.ntmps19
      go_wp2_with (go_at_call 45; refine (LT.out _).mono ?_; rintro e w1 ⟨rfl, rfl⟩)
      clear LT
      go_loop [3] (fun i => ∃ (k : Nat) (x : Int), i = .int .i64 x ∧ x = k ∧ k ≤ s.size ∧ (List.range k).all (fun i => okB (bt s i)) = true) (fun i => (s.size - intOf i).toNat)
      case atStart => exact ⟨0, 0, rfl, rfl, Nat.zero_le _, rfl⟩
      case round =>
        obtain ⟨k, x, rfl, hxk, hk, hal⟩ := hrel
        obtain rfl : x = (k : Int) := hxk
        have HA := mkHid hal
        clear hal
        by_cases hlt : k < s.size
        · have hb := bt_get s k hlt
          have HB := mkHid hb
          have hsu := range_all_succ (fun i => okB (bt s i)) k
          rw [HA.out, Bool.true_and] at hsu
          have HS := mkHid hsu
          clear hsu hb
          cases hc1 : letB (s[k].toNat : Int)
          · have L1 := mkHid (rletter_at _ _ hc1)
            by_cases hc2 : 48 ≤ (s[k].toNat : Int) ∧ (s[k].toNat : Int) ≤ 57
            · have hok : okB (bt s k) = true := by unfold okB digB; rw [← HB.out, decide_eq_true hc2.1, decide_eq_true hc2.2]; simp
              have HO := mkHid hok
              have a1 : decide ((s[k].toNat : Int) < 48) = false := decide_eq_false (by omega)
              have a2 : decide (57 < (s[k].toNat : Int)) = false := decide_eq_false (by omega)
              clear hok hc1 hc2
              go_wp2_with (go_at_call 45; refine (L1.out _).mono ?_; rintro e w1 ⟨rfl, rfl⟩)
              go_round
              case rel => exact ⟨k + 1, _, rfl, by omega, by omega, by rw [HS.out, HO.out]⟩
              case measure => simp [intOf]; omega
            · have hdg : digB (s[k].toNat : Int) = false := by
                unfold digB; simp only [Bool.and_eq_false_iff, decide_eq_false_iff_not]; omega
              have a3 : decide ((s[k].toNat : Int) < 48) = true ∨ (decide ((s[k].toNat : Int) < 48) = false ∧ decide (57 < (s[k].toNat : Int)) = true) := by
                simp only [decide_eq_true_eq, decide_eq_false_iff_not]; omega
              by_cases hc3 : (s[k].toNat : Int) = 95
              · have hc5 : ((s[k].toNat : Int) != 95) = false := by rw [bne, beq_iff_eq.2 hc3]; rfl
                have hok : okB (bt s k) = true := by unfold okB; rw [← HB.out]; simp [hc3]
                have HO := mkHid hok
                clear hok hc1 hc2 hc3 hdg
                rcases a3 with a1 | ⟨a1, a2⟩
                all_goals
                  go_wp2_with (go_at_call 45; refine (L1.out _).mono ?_; rintro e w1 ⟨rfl, rfl⟩)
                  go_round
                  case rel => exact ⟨k + 1, _, rfl, by omega, by omega, by rw [HS.out, HO.out]⟩
                  case measure => simp [intOf]; omega
              · have hc5 : ((s[k].toNat : Int) != 95) = true := by rw [bne, beq_eq_false_iff_ne.2 hc3]; rfl
                have hok : okB (bt s k) = false := by unfold okB; rw [← HB.out, hc1, hdg]; simp [hc3]
                have hR : R = false := by
                  rw [← HR.out]
                  rw [Bool.eq_false_iff]
                  intro h
                  have := List.all_eq_true.1 h k (List.mem_range.2 hlt)
                  rw [hok] at this; cases this
                subst hR
                clear hok hc1 hc2 hc3 hdg HR
                rcases a3 with a1 | ⟨a1, a2⟩
                all_goals
                  go_wp2_with (go_at_call 45; refine (L1.out _).mono ?_; rintro e w1 ⟨rfl, rfl⟩)
                  go_ret
                  exact ⟨rfl, rfl⟩
          · have L1 := mkHid (rletter_at _ _ hc1)
            have hok : okB (bt s k) = true := by unfold okB; rw [← HB.out, hc1]; rfl
            have HO := mkHid hok
            clear hok hc1
            go_wp2_with (first
              | (go_at_call 45; refine (L1.out _).mono ?_; rintro e w1 ⟨rfl, rfl⟩))
            go_round
            case rel => exact ⟨k + 1, _, rfl, by omega, by omega, by rw [HS.out, HO.out]⟩
            case measure => simp [intOf]; omega
        · have hR : R = true := by rw [← HR.out, show s.size = k by omega]; exact HA.out
          subst hR
          clear HR
          go_wp2
          go_ret
          exact ⟨rfl, rfl⟩
  · have e : nameB s = false := by
      unfold nameB
      by_cases ha : 1 ≤ s.size
      · rw [decide_eq_false (show ¬ s.size ≤ 16 by omega)]; simp
      · rw [decide_eq_false ha]; rfl
    rw [e]
    clear e
    by_cases ha : 1 ≤ s.size
    · have hz : s.toList.isEmpty = false := by rw [List.isEmpty_eq_false_iff]; intro h; have := congrArg List.length h; rw [toL_len, List.length_nil] at this; omega
      have hz1 : decide (16 < (s.size : Int)) = true := decide_eq_true (by omega)
      clear h1
      go_enter Tryd.func19, Tryd.ntmps19
      go_wp2
      go_ret
      exact ⟨rfl, rfl⟩
    · have hz : s.toList = [] := by apply List.eq_nil_of_length_eq_zero; rw [toL_len]; omega
      clear h1
      go_enter Tryd.func19, Tryd.ntmps19
      go_wp2
      go_ret
      exact ⟨rfl, rfl⟩
end Go.Proofs.YtaibmdikimpooaaDoor
