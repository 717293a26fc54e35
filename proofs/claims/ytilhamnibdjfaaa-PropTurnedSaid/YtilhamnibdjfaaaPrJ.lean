/-
  What the laws' 'same' and 'few' answer.
-/
import Derived.Test.YtilhamnibdjfaaaPrI
namespace Go.Proofs.Ytilhamnibdjfaaa
open Go.RowKit

theorem take_both {C D : List Int} {k : Nat} (h1 : k < C.length) (h2 : k < D.length) (h : C.take k = D.take k) (e : C.getD k 0 = D.getD k 0) : C.take (k + 1) = D.take (k + 1) := by
  rw [List.getD_eq_getElem?_getD, List.getD_eq_getElem?_getD, List.getElem?_eq_getElem h1, List.getElem?_eq_getElem h2] at e
  have e' : C[k] = D[k] := e
  rw [List.take_succ_eq_append_getElem h1, List.take_succ_eq_append_getElem h2, h, e']
set_option maxRecDepth 100000 in
set_option maxHeartbeats 4000000 in
theorem same_any (C D : List Int) (v u : Value) (w : World) (hv : RK .i8 w v C) (hu : RK .i8 w u D) (h1 : C.length ≤ 1000) :
    Calls Try.prog 16 #[v, u] w (RetV (.bool (decide (C = D))) w) := by
  obtain ⟨a, c, rfl, hcl, -, hv⟩ := hv
  obtain ⟨b, d, rfl, hdl, -, hu⟩ := hu
  have HV := mkHid hv
  have HU := mkHid hu
  clear hv hu
  by_cases hl : C.length = D.length
  · obtain ⟨n, hn⟩ : ∃ n, C.length = n := ⟨_, rfl⟩
    have hm : D.length = n := by omega
    have HT : Hid (∀ k, k < n → C.take k = D.take k → C.getD k 0 = D.getD k 0 → C.take (k + 1) = D.take (k + 1)) := fun k hk h e => take_both (by omega) (by omega) h e
    have HE : Hid (C.take n = D.take n → decide (C = D) = true) := fun h => by
      rw [List.take_of_length_le (by omega), List.take_of_length_le (by omega)] at h
      exact decide_eq_true h
    have HN : Hid (∀ k, C.getD k 0 ≠ D.getD k 0 → decide (C = D) = false) := fun k h => decide_eq_false (fun e => h (by rw [e]))
    obtain ⟨J, J0, JS, JE⟩ : ∃ J : Nat → Prop, J 0 ∧ Hid (∀ k, k < n → J k → C.getD k 0 = D.getD k 0 → J (k + 1)) ∧ Hid (J n → decide (C = D) = true) := ⟨fun k => C.take k = D.take k, by simp, HT.out, HE.out⟩
    clear HT HE
    rw [hn] at hcl HV ⊢
    rw [hm] at hdl HU ⊢
    have hn9 : n ≤ 1000 := by omega
    clear hn hm hl h1
    obtain ⟨f, hfd⟩ : ∃ f : Nat → Int, f = fun j => C.getD j 0 := ⟨_, rfl⟩
    have ef : ∀ j, C.getD j 0 = f j := fun j => by rw [hfd]
    obtain ⟨f', hfd'⟩ : ∃ f : Nat → Int, f = fun j => D.getD j 0 := ⟨_, rfl⟩
    have ef' : ∀ j, D.getD j 0 = f' j := fun j => by rw [hfd']
    simp only [ef, ef'] at *
    clear ef hfd ef' hfd'
    generalize decide (C = D) = res at *
    go_enter Try.func16, Try.ntmps16
    go_wp2
    go_loopw [5] (fun i w' => ∃ (k : Nat) (x : Int), i = .int .i64 x ∧ x = k ∧ k ≤ n ∧ Hid (J k) ∧ Hid (Below w.heap.size w w')) (fun i _ => (n - intOf i).toNat)
    case atStart => exact ⟨0, 0, rfl, rfl, Nat.zero_le _, J0, mkHid (Below.refl _ _)⟩
    case round =>
      obtain ⟨k, x, rfl, hxk, hk, HJ, BW⟩ := hrel
      obtain rfl : x = (k : Int) := hxk
      clear J0
      by_cases hlt : k < n
      · obtain ⟨b1, o1, rfl, e1⟩ := HV.out k hlt
        obtain ⟨b2, o2, rfl, e2⟩ := HU.out k hlt
        have J2 := mkHid (JS.out k hlt HJ.out)
        have N2 := mkHid (HN.out k)
        have g1 := cell_later BW.out e1
        have g2 := cell_later BW.out e2
        have hk3 : (k : Int) < (n : Int) := by omega
        clear e1 e2 HV HU JS JE HN
        generalize f k = p at *
        generalize f' k = q at *
        by_cases hst : p = q
        · have hs2 : (p != q) = false := by rw [hst]; simp
          have HT := mkHid (J2.out hst)
          clear J2 N2 hst
          go_wp2_with fail
          go_quiet (fail)
          go_wp2
          go_roundw
          case rel => exact ⟨k + 1, _, rfl, by omega, by omega, HT, mkHid (below_drewN BW.out nq)⟩
          case measure => simp [intOf]; omega
        · have hs2 : (p != q) = true := by rw [bne_iff_ne]; exact hst
          have HD := mkHid (N2.out hst)
          clear J2 N2
          go_wp2_with fail
          go_quiet (fail)
          go_wp2
          go_ret
          exact ⟨by rw [HD.out]; rfl, below_drewN BW.out nq⟩
      · obtain rfl : k = n := by omega
        have HD := mkHid (JE.out HJ.out)
        clear JS JE HN
        go_wp2
        go_ret
        exact ⟨by rw [HD.out]; rfl, BW.out⟩
  · have hne : ((C.length : Int) != (D.length : Int)) = true := by rw [bne_iff_ne]; omega
    have HD : Hid (decide (C = D) = false) := decide_eq_false (fun e => hl (by rw [e]))
    clear hl HV HU
    generalize decide (C = D) = res at *
    generalize C.length = lp at *
    generalize D.length = lq at *
    go_enter Try.func16, Try.ntmps16
    go_wp2
    go_ret
    exact ⟨by rw [HD.out]; rfl, Below.refl _ _⟩
end Go.Proofs.Ytilhamnibdjfaaa
