/-
  What 'Name' answers.
-/
import Derived.Test.YtaibmdikimpooaaDoorTmE
namespace Go.Proofs.YtaibmdikimpooaaDoor
open Go.RowKit

def letB (c : Int) : Bool := decide (65 ≤ c) && decide (c ≤ 90) || decide (97 ≤ c) && decide (c ≤ 122)
def digB (c : Int) : Bool := decide (48 ≤ c) && decide (c ≤ 57)
def okB (c : Int) : Bool := letB c || digB c || decide (c = 95)
def bt (s : ByteArray) (i : Nat) : Int := ((s.data.toList.getD i 0).toNat : Int)
theorem bt_get (s : ByteArray) (i : Nat) (h : i < s.size) : (s[i].toNat : Int) = bt s i := by
  unfold bt
  have h' : i < s.data.toList.length := by simpa using h
  rw [List.getD_eq_getElem?_getD, List.getElem?_eq_getElem h']
  rfl
def nameB (s : ByteArray) : Bool := decide (1 ≤ s.size) && decide (s.size ≤ 16) && letB (bt s 0) && (List.range s.size).all (fun i => okB (bt s i))

set_option maxRecDepth 100000 in
set_option maxHeartbeats 1000000 in
theorem letter_any (c : Int) (w : World) : Calls Tryd.prog 43 #[.int .u8 c] w fun e w' => e = .returned (.bool (letB c)) ∧ w = w' := by
  by_cases h1 : 65 ≤ c <;> by_cases h2 : c ≤ 90 <;> by_cases h3 : 97 ≤ c <;> by_cases h4 : c ≤ 122
  all_goals
    first
      | (exfalso; omega)
      | (have e : letB c = true := by (simp [letB]; omega)
         rw [e]
         clear e
         go_enter Tryd.func43, Tryd.ntmps43
         go_wp2
         go_ret
         exact ⟨rfl, rfl⟩)
      | (have e : letB c = false := by (simp [letB]; omega)
         rw [e]
         clear e
         go_enter Tryd.func43, Tryd.ntmps43
         go_wp2
         go_ret
         exact ⟨rfl, rfl⟩)
set_option maxRecDepth 100000 in
set_option maxHeartbeats 1000000 in
theorem digit_any (c : Int) (w : World) : Calls Tryd.prog 44 #[.int .u8 c] w fun e w' => e = .returned (.bool (digB c)) ∧ w = w' := by
  by_cases h1 : 48 ≤ c <;> by_cases h2 : c ≤ 57
  all_goals
    first
      | (exfalso; omega)
      | (have e : digB c = true := by (simp [digB]; omega)
         rw [e]
         clear e
         go_enter Tryd.func44, Tryd.ntmps44
         go_wp2
         go_ret
         exact ⟨rfl, rfl⟩)
      | (have e : digB c = false := by (simp [digB]; omega)
         rw [e]
         clear e
         go_enter Tryd.func44, Tryd.ntmps44
         go_wp2
         go_ret
         exact ⟨rfl, rfl⟩)
theorem letter_at (c : Int) (b : Bool) (h : letB c = b) (w : World) : Calls Tryd.prog 43 #[.int .u8 c] w fun e w' => e = .returned (.bool b) ∧ w = w' := h ▸ letter_any c w
theorem digit_at (c : Int) (b : Bool) (h : digB c = b) (w : World) : Calls Tryd.prog 44 #[.int .u8 c] w fun e w' => e = .returned (.bool b) ∧ w = w' := h ▸ digit_any c w

theorem range_all_succ (p : Nat → Bool) (k : Nat) : (List.range (k + 1)).all p = ((List.range k).all p && p k) := by
  rw [List.range_succ, List.all_append]; simp

set_option maxRecDepth 100000 in
set_option maxHeartbeats 2000000 in
theorem name_any (s : ByteArray) (w : World) (hs : s.size ≤ maxLen) :
    Calls Tryd.prog 18 #[.string s] w fun e w' => e = .returned (.bool (nameB s)) ∧ w = w' := by
  unfold maxLen at hs
  by_cases h1 : 1 ≤ s.size ∧ s.size ≤ 16
  · obtain ⟨ha, hb⟩ := h1
    have hz : ((s.size : Int) == 0) = false := beq_eq_false_iff_ne.2 (by omega)
    have hz1 : decide (16 < (s.size : Int)) = false := decide_eq_false (by omega)
    have hl := bt_get s 0 (by omega)
    cases hL : letB (bt s 0)
    · have e : nameB s = false := by simp [nameB, hL]
      rw [e]
      clear e
      rw [← hl] at hL
      have LT := mkHid (letter_at _ _ hL)
      clear hL hl
      go_enter Tryd.func18, Tryd.ntmps18
      go_wp2_with (go_at_call 43; refine (LT.out _).mono ?_; rintro e w1 ⟨rfl, rfl⟩)
      go_ret
      exact ⟨rfl, rfl⟩
    · have e : nameB s = (List.range s.size).all (fun i => okB (bt s i)) := by
        unfold nameB; rw [hL, decide_eq_true ha, decide_eq_true hb]; rfl
      rw [e]
      clear e
      rw [← hl] at hL
      have LT := mkHid (letter_at _ _ hL)
      clear hL hl
      generalize hR : (List.range s.size).all (fun i => okB (bt s i)) = R
      have HR := mkHid hR
      clear hR
      go_enter Tryd.func18, Tryd.ntmps18
      go_wp2_with (go_at_call 43; refine (LT.out _).mono ?_; rintro e w1 ⟨rfl, rfl⟩)
      clear LT
      go_loop [3, 4, 21] (fun _ _ i => ∃ (k : Nat) (x : Int), i = .int .i64 x ∧ x = k ∧ k ≤ s.size ∧ (List.range k).all (fun i => okB (bt s i)) = true) (fun _ _ i => (s.size - intOf i).toNat)
      case atStart => exact ⟨0, 0, rfl, rfl, Nat.zero_le _, rfl⟩
      case round =>
        obtain ⟨k, x, rfl, hxk, hk, hal⟩ := hrel
        obtain rfl : x = (k : Int) := hxk
        have HA := mkHid hal
        clear hal
        by_cases hlt : k < s.size
        · have hb := bt_get s k hlt
          have HB := mkHid hb
          have hsu := range_all_succ (fun i => okB (bt s i)) k
          rw [HA.out, Bool.true_and] at hsu
          have HS := mkHid hsu
          clear hsu hb
          cases hc1 : letB (s[k].toNat : Int)
          · cases hc2 : digB (s[k].toNat : Int)
            · by_cases hc3 : (s[k].toNat : Int) = 95
              · have L1 := mkHid (letter_at _ _ hc1)
                have D1 := mkHid (digit_at _ _ hc2)
                have hc4 : ((s[k].toNat : Int) == 95) = true := beq_iff_eq.2 hc3
                have hc5 : ((s[k].toNat : Int) != 95) = false := by rw [bne, hc4]; rfl
                have hok : okB (bt s k) = true := by unfold okB; rw [← HB.out]; simp [hc3]
                have HO := mkHid hok
                clear hok hc1 hc2 hc3
                go_wp2_with (first
                  | (go_at_call 43; refine (L1.out _).mono ?_; rintro e w1 ⟨rfl, rfl⟩)
                  | (go_at_call 44; refine (D1.out _).mono ?_; rintro e w1 ⟨rfl, rfl⟩))
                go_round
                case rel => exact ⟨k + 1, _, rfl, by omega, by omega, by rw [HS.out, HO.out]⟩
                case measure => simp [intOf]; omega
              · have L1 := mkHid (letter_at _ _ hc1)
                have D1 := mkHid (digit_at _ _ hc2)
                have hc4 : ((s[k].toNat : Int) == 95) = false := beq_eq_false_iff_ne.2 hc3
                have hc5 : ((s[k].toNat : Int) != 95) = true := by rw [bne, hc4]; rfl
                have hok : okB (bt s k) = false := by unfold okB; rw [← HB.out, hc1, hc2]; simp [hc3]
                have hR : R = false := by
                  rw [← HR.out]
                  rw [Bool.eq_false_iff]
                  intro h
                  have := List.all_eq_true.1 h k (List.mem_range.2 hlt)
                  rw [hok] at this; cases this
                subst hR
                clear hok hc1 hc2 hc3 HR
                go_wp2_with (first
                  | (go_at_call 43; refine (L1.out _).mono ?_; rintro e w1 ⟨rfl, rfl⟩)
                  | (go_at_call 44; refine (D1.out _).mono ?_; rintro e w1 ⟨rfl, rfl⟩))
                go_ret
                exact ⟨rfl, rfl⟩
            · have L1 := mkHid (letter_at _ _ hc1)
              have D1 := mkHid (digit_at _ _ hc2)
              have hok : okB (bt s k) = true := by unfold okB; rw [← HB.out, hc1, hc2]; rfl
              have HO := mkHid hok
              clear hok hc1 hc2
              go_wp2_with (first
                | (go_at_call 43; refine (L1.out _).mono ?_; rintro e w1 ⟨rfl, rfl⟩)
                | (go_at_call 44; refine (D1.out _).mono ?_; rintro e w1 ⟨rfl, rfl⟩))
              go_round
              case rel => exact ⟨k + 1, _, rfl, by omega, by omega, by rw [HS.out, HO.out]⟩
              case measure => simp [intOf]; omega
          · have L1 := mkHid (letter_at _ _ hc1)
            have hok : okB (bt s k) = true := by unfold okB; rw [← HB.out, hc1]; rfl
            have HO := mkHid hok
            clear hok hc1
            go_wp2_with (first
              | (go_at_call 43; refine (L1.out _).mono ?_; rintro e w1 ⟨rfl, rfl⟩))
            go_round
            case rel => exact ⟨k + 1, _, rfl, by omega, by omega, by rw [HS.out, HO.out]⟩
            case measure => simp [intOf]; omega
        · have hR : R = true := by rw [← HR.out, show s.size = k by omega]; exact HA.out
          subst hR
          clear HR
          go_wp2
          go_ret
          exact ⟨rfl, rfl⟩
  · have e : nameB s = false := by
      unfold nameB
      by_cases ha : 1 ≤ s.size
      · rw [decide_eq_false (show ¬ s.size ≤ 16 by omega)]; simp
      · rw [decide_eq_false ha]; rfl
    rw [e]
    clear e
    by_cases ha : 1 ≤ s.size
    · have hz : ((s.size : Int) == 0) = false := beq_eq_false_iff_ne.2 (by omega)
      have hz1 : decide (16 < (s.size : Int)) = true := decide_eq_true (by omega)
      clear h1
      go_enter Tryd.func18, Tryd.ntmps18
      go_wp2
      go_ret
      exact ⟨rfl, rfl⟩
    · have hz : ((s.size : Int) == 0) = true := beq_iff_eq.2 (by omega)
      clear h1
      go_enter Tryd.func18, Tryd.ntmps18
      go_wp2
      go_ret
      exact ⟨rfl, rfl⟩
end Go.Proofs.YtaibmdikimpooaaDoor
