/-
  What the laws' 'holds' and 'known' answer: is a clause true; are all clauses true that have no later variable.
-/
import Derived.Test.YtaiachmolkjedaaDoorCnV
import Derived.Test.YtaiachmolkjedaaDoorCnP
namespace Go.Proofs.YtaiachmolkjedaaDoor
open Go.RowKit

/-- the values of a row of bools -/
def bv (bs : List Bool) : Nat → Bool := fun i => bs.getD i false
theorem lv_sign (a : Nat → Bool) (vn : Nat) (h : 1 ≤ vn) : lv a (vn : Int) = a vn ∧ lv a (-(vn : Int)) = !a vn := ⟨lv_pos a h, by rw [lv_neg a (by omega), lv_pos a h]⟩
theorem cl_take {a : Nat → Bool} {p : List Int} {k : Nat} (hk : k < p.length) : cl a (p.take (k + 1)) = (cl a (p.take k) || lv a p[k]) := by
  unfold cl
  rw [List.take_succ_eq_append_getElem hk, List.any_append]; simp
theorem cl_true {a : Nat → Bool} {p : List Int} {k : Nat} (hk : k < p.length) (h : lv a p[k] = true) : cl a p = true := by
  unfold cl
  rw [List.any_eq_true]
  exact ⟨_, List.getElem_mem hk, h⟩
set_option maxRecDepth 100000 in
set_option maxHeartbeats 4000000 in
theorem clholds_any (g N : Nat) (bs : List Bool) (p : List Int) (r : Value) (w : World) (hr : RI w r p) (hb : BRow w g N bs) (hN : N ≤ 100000) (hp : ∀ x ∈ p, x ≠ 0 ∧ x.natAbs < N) :
    Calls Tryd.prog 35 #[r, .slice (some ⟨g, 0, none⟩) N N] w (RetV (.bool (cl (bv bs) p)) w) := by
  obtain ⟨a, c, rfl, hl, hr⟩ := hr
  have HR := mkHid hr
  have HB := mkHid hb
  have HP := mkHid hp
  obtain ⟨n, hn⟩ : ∃ n, p.length = n := ⟨_, rfl⟩
  have HN := mkHid hn
  rw [hn] at hl ⊢
  clear hr hb hp hn
  have hn9 : n ≤ 9223372036854775807 := by omega
  go_enter Tryd.func35, Tryd.ntmps35
  go_wp2
  go_loopw [5] (fun i w' => ∃ (k : Nat) (x : Int), i = .int .i64 x ∧ x = k ∧ k ≤ n ∧ Hid (Below w.heap.size w w') ∧ Hid (cl (bv bs) (p.take k) = false)) (fun i _ => (n - intOf i).toNat)
  case atStart => exact ⟨0, 0, rfl, rfl, Nat.zero_le _, mkHid (Below.refl _ _), mkHid (by simp [cl])⟩
  case round =>
    obtain ⟨k, x, rfl, hxk, hk, BW, HF⟩ := hrel
    obtain rfl : x = (k : Int) := hxk
    by_cases hlt : k < n
    · have hk' : k < p.length := by rw [HN.out]; exact hlt
      obtain ⟨b, o, rfl, hb1, e1⟩ := HR.out k hk'
      have g1 := cell_later BW.out e1
      obtain ⟨hq0, hq1⟩ := HP.out p[k] (List.getElem_mem _)
      have hT : lv (bv bs) p[k] = true → cl (bv bs) p = true := fun h => cl_true hk' h
      have hF : lv (bv bs) p[k] = false → cl (bv bs) (p.take (k + 1)) = false := fun h => by rw [cl_take hk', HF.out, h]; rfl
      clear e1
      generalize p[k] = q at *
      clear hk'
      obtain ⟨vn, hvn⟩ : ∃ vn, q.natAbs = vn := ⟨_, rfl⟩
      have hk2 : (k : Int) < (n : Int) := by omega
      have hq : q = (vn : Int) ∨ q = -(vn : Int) := by omega
      have hv1 : 1 ≤ vn := by omega
      have hv2 : vn < N := by omega
      obtain ⟨s1, s2⟩ := lv_sign (bv bs) vn hv1
      have hlen := HB.out.len
      have cv := cell_later BW.out (HB.out.cell vn (by omega))
      have ebv : bv bs vn = bs[vn]'(by omega) := by unfold bv; rw [List.getD_eq_getElem?_getD, List.getElem?_eq_getElem (by omega)]; rfl
      rw [← ebv] at cv
      clear hq0 hq1 hvn ebv hlen
      rcases hq with rfl | rfl
      · rw [s1] at hT hF
        have HTR := mkHid hT
        have HFA := mkHid hF
        clear hT hF s1 s2
        generalize bv bs vn = bit at *
        cases bit
        · skip
          have h1 : -9223372036854775808 ≤ -(vn : Int) := by omega
          have h2 : (vn : Int) ≤ 9223372036854775807 := by omega
          have h3 : (0 : Int) < (vn : Int) := by omega
          have h4 : ¬ (vn : Int) < 0 := by omega
          have h5 : ¬ (0 : Int) < -(vn : Int) := by omega
          have h6 : -(vn : Int) < 0 := by omega
          have h7 : (vn : Int) < (N : Int) := by omega
          have HF2 := mkHid (HFA.out rfl)
          clear HTR HFA
          go_wp2
          go_roundw
          case rel => exact ⟨k + 1, _, rfl, by omega, by omega, BW, HF2⟩
          case measure => simp [intOf]; omega
        · skip
          have h1 : -9223372036854775808 ≤ -(vn : Int) := by omega
          have h2 : (vn : Int) ≤ 9223372036854775807 := by omega
          have h3 : (0 : Int) < (vn : Int) := by omega
          have h4 : ¬ (vn : Int) < 0 := by omega
          have h5 : ¬ (0 : Int) < -(vn : Int) := by omega
          have h6 : -(vn : Int) < 0 := by omega
          have h7 : (vn : Int) < (N : Int) := by omega
          have HT2 := mkHid (HTR.out rfl)
          clear HTR HFA
          go_wp2
          go_ret
          exact ⟨by rw [HT2.out]; rfl, BW.out⟩
      · rw [s2] at hT hF
        have HTR := mkHid hT
        have HFA := mkHid hF
        clear hT hF s1 s2
        generalize bv bs vn = bit at *
        cases bit
        · skip
          have h1 : -9223372036854775808 ≤ -(vn : Int) := by omega
          have h2 : (vn : Int) ≤ 9223372036854775807 := by omega
          have h3 : (0 : Int) < (vn : Int) := by omega
          have h4 : ¬ (vn : Int) < 0 := by omega
          have h5 : ¬ (0 : Int) < -(vn : Int) := by omega
          have h6 : -(vn : Int) < 0 := by omega
          have h7 : (vn : Int) < (N : Int) := by omega
          have HT2 := mkHid (HTR.out rfl)
          clear HTR HFA
          go_wp2
          go_ret
          exact ⟨by rw [HT2.out]; rfl, BW.out⟩
        · skip
          have h1 : -9223372036854775808 ≤ -(vn : Int) := by omega
          have h2 : (vn : Int) ≤ 9223372036854775807 := by omega
          have h3 : (0 : Int) < (vn : Int) := by omega
          have h4 : ¬ (vn : Int) < 0 := by omega
          have h5 : ¬ (0 : Int) < -(vn : Int) := by omega
          have h6 : -(vn : Int) < 0 := by omega
          have h7 : (vn : Int) < (N : Int) := by omega
          have HF2 := mkHid (HFA.out rfl)
          clear HTR HFA
          go_wp2
          go_roundw
          case rel => exact ⟨k + 1, _, rfl, by omega, by omega, BW, HF2⟩
          case measure => simp [intOf]; omega
    · have E : Hid (cl (bv bs) p = false) := by
        have := HF.out
        rw [List.take_of_length_le (by rw [HN.out]; omega)] at this
        exact this
      go_wp2
      go_ret
      exact ⟨by rw [E.out]; rfl, BW.out⟩
theorem ltr_take {v : Nat} {p : List Int} {k : Nat} (hk : k < p.length) : ltr v (p.take (k + 1)) = (ltr v (p.take k) || decide (v < p[k].natAbs)) := by
  unfold ltr
  rw [List.take_succ_eq_append_getElem hk, List.any_append]; simp
theorem kn_take {a : Nat → Bool} {v : Nat} {C : List (List Int)} {k : Nat} (hk : k < C.length) : kn a v (C.take (k + 1)) = (kn a v (C.take k) && (ltr v C[k] || cl a C[k])) := by
  unfold kn
  rw [List.take_succ_eq_append_getElem hk, List.all_append]; simp
theorem kn_false {a : Nat → Bool} {v : Nat} {C : List (List Int)} {k : Nat} (hk : k < C.length) (h : (ltr v C[k] || cl a C[k]) = false) : kn a v C = false := by
  unfold kn
  rw [List.all_eq_false]
  exact ⟨_, List.getElem_mem hk, by rw [h]; simp⟩
set_option maxRecDepth 100000 in
set_option maxHeartbeats 8000000 in
theorem known_any (g N v : Nat) (bs : List Bool) (C : List (List Int)) (u : Value) (w : World) (hu : RR w u C) (hb : BRow w g N bs) (hN : N ≤ 100000) (hp : ∀ c ∈ C, ∀ x ∈ c, x ≠ 0 ∧ x.natAbs < N) :
    Calls Tryd.prog 34 #[u, .slice (some ⟨g, 0, none⟩) N N, .int .i64 (v : Int)] w (RetV (.bool (kn (bv bs) v C)) w) := by
  obtain ⟨a, c, rfl, hl, -, hu⟩ := hu
  have HU := mkHid hu
  have HB := mkHid hb
  have HP := mkHid hp
  obtain ⟨n, hn⟩ : ∃ n, C.length = n := ⟨_, rfl⟩
  have HN := mkHid hn
  rw [hn] at hl ⊢
  clear hu hb hp hn
  have hn9 : n ≤ 9223372036854775807 := by omega
  go_enter Tryd.func34, Tryd.ntmps34
  go_wp2
  go_loopw [7] (fun i w' => ∃ (k : Nat) (x : Int), i = .int .i64 x ∧ x = k ∧ k ≤ n ∧ Hid (Below w.heap.size w w') ∧ Hid (kn (bv bs) v (C.take k) = true)) (fun i _ => (n - intOf i).toNat)
  case atStart => exact ⟨0, 0, rfl, rfl, Nat.zero_le _, mkHid (Below.refl _ _), mkHid (by simp [kn])⟩
  case round =>
    obtain ⟨k, x, rfl, hxk, hk, BW, HK⟩ := hrel
    obtain rfl : x = (k : Int) := hxk
    by_cases hlt : k < n
    · have hk' : k < C.length := by rw [HN.out]; exact hlt
      obtain ⟨b1, o1, r1, rfl, hb1, e1, hri⟩ := HU.out k hk'
      have HRI := mkHid hri
      obtain ⟨a1, c1, rfl, l1, f1⟩ := hri
      have HPP := mkHid (HP.out C[k] (List.getElem_mem _))
      have HKF : Hid ((ltr v C[k] || cl (bv bs) C[k]) = false → kn (bv bs) v C = false) := fun h => kn_false hk' h
      have HKT : Hid ((ltr v C[k] || cl (bv bs) C[k]) = true → kn (bv bs) v (C.take (k + 1)) = true) := fun h => by rw [kn_take hk', HK.out, h]; rfl
      have F1 := mkHid f1
      have E1 := mkHid e1
      clear f1 e1
      generalize C[k] = p at *
      clear hk'
      obtain ⟨m, hm⟩ : ∃ m, p.length = m := ⟨_, rfl⟩
      have HM := mkHid hm
      rw [hm] at l1 E1 HRI
      clear hm
      have hm9 : m ≤ 9223372036854775807 := by omega
      have hk3 : (k : Int) < (n : Int) := by omega
      go_wp2
      go_loopw [8, 9] (fun q i w' => ∃ (j : Nat) (x : Int) (lt : Bool), i = .int .i64 x ∧ x = j ∧ j ≤ m ∧ q = .bool lt ∧ Hid (lt = ltr v (p.take j)) ∧ Hid (Below w.heap.size w w')) (fun _ i _ => (m - intOf i).toNat)
      case atStart => exact ⟨0, 0, false, rfl, rfl, Nat.zero_le _, rfl, mkHid (by simp [ltr]), BW⟩
      case round =>
        clear BW
        obtain ⟨j, y, lt, rfl, hyj, hj, rfl, HLT0, BX⟩ := hrel
        obtain rfl : y = (j : Int) := hyj
        have g1 := cell_later BX.out E1.out
        by_cases hlj : j < m
        · have hj' : j < p.length := by rw [HM.out]; exact hlj
          obtain ⟨b3, o3, rfl, hb3, e3⟩ := F1.out j hj'
          have g2 := cell_later BX.out e3
          have HLT : Hid (∀ b, (lt || decide (v < p[j].natAbs)) = b → b = ltr v (p.take (j + 1))) := fun b h => by rw [ltr_take hj', ← HLT0.out, h]
          have HQM : Hid (p[j] ∈ p) := List.getElem_mem _
          generalize p[j] = q at *
          clear hj' e3
          have hj3 : (j : Int) < (m : Int) := by omega
          cases lt
          · obtain ⟨vn, hvn⟩ : ∃ vn, q.natAbs = vn := ⟨_, rfl⟩
            rw [hvn] at HLT
            have hq : q = (vn : Int) ∨ q = -(vn : Int) := by omega
            have hbig : 1 ≤ vn ∧ vn ≤ 100000000 := by
              have h9 := (HPP.out q HQM.out)
              omega
            obtain ⟨hv1, hbig⟩ := hbig
            clear hvn
            rcases hq with rfl | rfl
            · have h1 : -9223372036854775808 ≤ -(vn : Int) := by omega
              have h2 : (vn : Int) ≤ 9223372036854775807 := by omega
              have h3 : max (vn : Int) (-(vn : Int)) = (vn : Int) := by omega
              have h4 : max (-(vn : Int)) (vn : Int) = (vn : Int) := by omega
              have h6 : -(vn : Int) < (vn : Int) := by omega
              have h7 : ¬ (vn : Int) < -(vn : Int) := by omega
              have hw1 : IntKind.i64.wrap (-(vn : Int)) = -(vn : Int) := by rw [IntKind.wrap_i64]; omega
              have hw2 : IntKind.i64.wrap (vn : Int) = (vn : Int) := by rw [IntKind.wrap_i64]; omega
              by_cases hc : v < vn
              · have h5 : (v : Int) < (vn : Int) := by omega
                have HT2 := mkHid (HLT.out true (by simp [hc]))
                clear HLT
                go_wp2_with fail
                go_quiet (fail)
                go_wp2
                go_roundw
                case rel => exact ⟨j + 1, _, true, rfl, by omega, by omega, rfl, HT2, mkHid (below_drewN BX.out nq)⟩
                case measure => simp [intOf]; omega
              · have h5 : ¬ (v : Int) < (vn : Int) := by omega
                have HT2 := mkHid (HLT.out false (by simp [hc]))
                clear HLT
                go_wp2_with fail
                go_quiet (fail)
                go_wp2
                go_roundw
                case rel => exact ⟨j + 1, _, false, rfl, by omega, by omega, rfl, HT2, mkHid (below_drewN BX.out nq)⟩
                case measure => simp [intOf]; omega
            · have h1 : -9223372036854775808 ≤ -(vn : Int) := by omega
              have h2 : (vn : Int) ≤ 9223372036854775807 := by omega
              have h3 : max (vn : Int) (-(vn : Int)) = (vn : Int) := by omega
              have h4 : max (-(vn : Int)) (vn : Int) = (vn : Int) := by omega
              have h6 : -(vn : Int) < (vn : Int) := by omega
              have h7 : ¬ (vn : Int) < -(vn : Int) := by omega
              have hw1 : IntKind.i64.wrap (-(vn : Int)) = -(vn : Int) := by rw [IntKind.wrap_i64]; omega
              have hw2 : IntKind.i64.wrap (vn : Int) = (vn : Int) := by rw [IntKind.wrap_i64]; omega
              by_cases hc : v < vn
              · have h5 : (v : Int) < (vn : Int) := by omega
                have HT2 := mkHid (HLT.out true (by simp [hc]))
                clear HLT
                go_wp2_with fail
                go_quiet (fail)
                go_wp2
                go_roundw
                case rel => exact ⟨j + 1, _, true, rfl, by omega, by omega, rfl, HT2, mkHid (below_drewN BX.out nq)⟩
                case measure => simp [intOf]; omega
              · have h5 : ¬ (v : Int) < (vn : Int) := by omega
                have HT2 := mkHid (HLT.out false (by simp [hc]))
                clear HLT
                go_wp2_with fail
                go_quiet (fail)
                go_wp2
                go_roundw
                case rel => exact ⟨j + 1, _, false, rfl, by omega, by omega, rfl, HT2, mkHid (below_drewN BX.out nq)⟩
                case measure => simp [intOf]; omega
          · have HT2 := mkHid (HLT.out true rfl)
            clear HLT
            go_wp2_with fail
            go_quiet (fail)
            go_wp2
            go_roundw
            case rel => exact ⟨j + 1, _, true, rfl, by omega, by omega, rfl, HT2, mkHid (below_drewN BX.out nq)⟩
            case measure => simp [intOf]; omega
        · obtain rfl : j = m := by omega
          have hlt9 : lt = ltr v p := by
            have := HLT0.out
            rw [List.take_of_length_le (by rw [HM.out]; omega)] at this
            exact this
          cases lt
          · have HH := mkHid (clholds_any g N bs p _ wr (HRI.out.later BX.out) (HB.out.later BX.out) hN HPP.out)
            rw [← hlt9, Bool.false_or] at HKF HKT
            generalize cl (bv bs) p = cb at *
            clear hlt9
            cases cb
            · have E := mkHid (HKF.out rfl)
              go_wp2_with (go_at_call 35; ((with_reducible refine HH.out.mono ?_)); rintro e w4 ⟨rfl, hb4⟩)
              go_ret
              exact ⟨by rw [E.out]; rfl, bon BX.out hb4⟩
            · have E := mkHid (HKT.out rfl)
              go_wp2_with (go_at_call 35; ((with_reducible refine HH.out.mono ?_)); rintro e w4 ⟨rfl, hb4⟩)
              go_roundw
              case rel => exact ⟨k + 1, _, rfl, by omega, by omega, mkHid (bon BX.out hb4), E⟩
              case measure => simp [intOf]; omega
          · have E := mkHid (HKT.out (by rw [← hlt9]; rfl))
            clear hlt9 HKT HKF HLT0 HRI HPP HM F1 E1
            go_wp2
            go_roundw
            case rel => exact ⟨k + 1, _, rfl, by omega, by omega, BX, E⟩
            case measure => simp [intOf]; omega
    · have E : Hid (kn (bv bs) v C = true) := by
        have := HK.out
        rw [List.take_of_length_le (by rw [HN.out]; omega)] at this
        exact this
      go_wp2
      go_ret
      exact ⟨by rw [E.out]; rfl, BW.out⟩
end Go.Proofs.YtaiachmolkjedaaDoor
