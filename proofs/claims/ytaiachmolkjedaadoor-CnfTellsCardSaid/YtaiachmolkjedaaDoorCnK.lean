/-
  Rows of clauses that are read: the laws' 'same'; how many clauses a term takes: 'joined'.
-/
import Derived.Test.YtaiachmolkjedaaDoorCnJ
namespace Go.Proofs.YtaiachmolkjedaaDoor
open Go.RowKit

/-- numbers that can be read; rows of them -/
def RI (w : World) (r : Value) (R : List Int) : Prop := ∃ a c, r = .slice a R.length c ∧ R.length ≤ 100000 ∧ ∀ k (h : k < R.length), ∃ b o, a = some ⟨b, o, none⟩ ∧ b < w.heap.size ∧ w.cell? ⟨b, o + k, none⟩ = some (.int .i64 R[k])
def RR (w : World) (v : Value) (C : List (List Int)) : Prop := ∃ a c, v = .slice a C.length c ∧ C.length ≤ 100000 ∧ C.length ≤ c ∧ ∀ i (h : i < C.length), ∃ b o r, a = some ⟨b, o, none⟩ ∧ b < w.heap.size ∧ w.cell? ⟨b, o + i, none⟩ = some r ∧ RI w r C[i]
theorem RI.later {w w' : World} {r : Value} {R : List Int} (h : RI w r R) (hb : Below w.heap.size w w') : RI w' r R := by
  obtain ⟨a, c, e, hl, h⟩ := h
  refine ⟨a, c, e, hl, fun k hk => ?_⟩
  obtain ⟨b, o, ea, hb1, hc⟩ := h k hk
  exact ⟨b, o, ea, Nat.lt_of_lt_of_le hb1 hb.size, cell_later hb hc⟩
theorem RR.later {w w' : World} {v : Value} {C : List (List Int)} (h : RR w v C) (hb : Below w.heap.size w w') : RR w' v C := by
  obtain ⟨a, c, e, hl, hc, h⟩ := h
  refine ⟨a, c, e, hl, hc, fun i hi => ?_⟩
  obtain ⟨b, o, r, ea, hb1, hr, hi⟩ := h i hi
  exact ⟨b, o, r, ea, Nat.lt_of_lt_of_le hb1 hb.size, cell_later hb hr, hi.later hb⟩
theorem own_ri {w : World} {base : Nat} {r : Value} {R : List Int} (h : w.ownsRow base 3 1 r R.length (ints R)) (hl : R.length ≤ 100000) : RI w r R := by
  obtain ⟨a, c, e⟩ := own_val h
  refine ⟨a, c, e, hl, fun k hk => ?_⟩
  obtain ⟨g, cap, e'⟩ := own_some h (by omega)
  rw [e] at e'
  simp only [Value.slice.injEq, true_and] at e'
  obtain ⟨rfl, rfl⟩ := e'
  subst e
  refine ⟨g, 0, rfl, (own_lt h rfl).2, ?_⟩
  rw [Nat.zero_add, h.cellAt k (by omega), ints_at R k hk]
theorem CRows.rr {w : World} {base : Nat} {v : Value} {C : List (List Int)} {us : List Value} (h : CRows w base v C us) (hl : C.length ≤ 100000) (hc : ∀ c ∈ C, c.length ≤ 100000) : RR w v C := by
  obtain ⟨a, c, e⟩ := own_val h.row
  obtain ⟨a', c', e', hcc, -⟩ := own_is h.row
  rw [e] at e'
  simp only [Value.slice.injEq, true_and] at e'
  obtain ⟨rfl, rfl⟩ := e'
  refine ⟨a, c, e, hl, hcc, fun i hi => ?_⟩
  obtain ⟨g, cap, e'⟩ := own_some h.row (by omega)
  rw [e] at e'
  simp only [Value.slice.injEq, true_and] at e'
  obtain ⟨rfl, rfl⟩ := e'
  have hi' : i < us.length := by rw [h.len]; exact hi
  have hr := h.row
  rw [e] at hr
  refine ⟨g, 0, us[i], rfl, (own_lt hr rfl).2, ?_, own_ri (h.els i hi hi') (hc _ (List.getElem_mem _))⟩
  rw [Nat.zero_add, hr.cellAt i (by omega), List.getElem?_eq_getElem hi']
/-- fewer rows -/
theorem RR.take {w : World} {a : Option Addr} {c n : Nat} {C : List (List Int)} (h : RR w (.slice a C.length c) C) (hn : n ≤ C.length) : RR w (.slice a n c) (C.take n) := by
  obtain ⟨a', c', e, hl, hc, h⟩ := h
  simp only [Value.slice.injEq, true_and] at e
  obtain ⟨rfl, rfl⟩ := e
  refine ⟨a, c, by rw [List.length_take, Nat.min_eq_left hn], by rw [List.length_take]; omega, by rw [List.length_take]; omega, fun i hi => ?_⟩
  rw [List.length_take] at hi
  obtain ⟨b, o, r, ea, hb1, hr, hi'⟩ := h i (by omega)
  refine ⟨b, o, r, ea, hb1, hr, ?_⟩
  rw [List.getElem_take]
  exact hi'
theorem take_both {α : Type} {C D : List α} {k : Nat} (h1 : k < C.length) (h2 : k < D.length) (h : C.take k = D.take k) (e : C[k] = D[k]) : C.take (k + 1) = D.take (k + 1) := by
  rw [List.take_succ_eq_append_getElem h1, List.take_succ_eq_append_getElem h2, h, e]
set_option maxRecDepth 100000 in
set_option maxHeartbeats 4000000 in
theorem same_any (C D : List (List Int)) (v u : Value) (w : World) (hv : RR w v C) (hu : RR w u D) :
    Calls Tryd.prog 38 #[v, u] w (RetV (.bool (decide (C = D))) w) := by
  obtain ⟨a, c, rfl, hcl, -, hv⟩ := hv
  obtain ⟨b, d, rfl, hdl, -, hu⟩ := hu
  have HV := mkHid hv
  have HU := mkHid hu
  clear hv hu
  by_cases hl : C.length = D.length
  · obtain ⟨n, hn⟩ : ∃ n, C.length = n := ⟨_, rfl⟩
    have hm : D.length = n := by omega
    have HN := mkHid hn
    have HM := mkHid hm
    rw [hn] at hcl ⊢
    rw [hm] at hdl ⊢
    clear hn hm hl
    have hn9 : n ≤ 9223372036854775807 := by omega
    go_enter Tryd.func38, Tryd.ntmps38
    go_wp2
    go_loopw [5] (fun i w' => ∃ (k : Nat) (x : Int), i = .int .i64 x ∧ x = k ∧ k ≤ n ∧ Hid (Below w.heap.size w w') ∧ Hid (C.take k = D.take k)) (fun i _ => (n - intOf i).toNat)
    case atStart => exact ⟨0, 0, rfl, rfl, Nat.zero_le _, mkHid (Below.refl _ _), mkHid (by simp)⟩
    case round =>
      obtain ⟨k, x, rfl, hxk, hk, BW, HE⟩ := hrel
      obtain rfl : x = (k : Int) := hxk
      by_cases hlt : k < n
      · have hk1 : k < C.length := by rw [HN.out]; exact hlt
        have hk2 : k < D.length := by rw [HM.out]; exact hlt
        obtain ⟨b1, o1, r1, rfl, hb1, e1, a1, c1, rfl, l1, f1⟩ := HV.out k hk1
        obtain ⟨b2, o2, r2, rfl, hb2, e2, a2, c2, rfl, l2, f2⟩ := HU.out k hk2
        have HNE : Hid (C[k] ≠ D[k] → C ≠ D) := fun h e => h (by subst e; rfl)
        have HTB : Hid (C[k] = D[k] → C.take (k + 1) = D.take (k + 1)) := fun h => take_both hk1 hk2 HE.out h
        have F1 := mkHid f1
        have F2 := mkHid f2
        have E1 := mkHid e1
        have E2 := mkHid e2
        have g1 := cell_later BW.out e1
        have g2 := cell_later BW.out e2
        clear f1 f2 e1 e2 HV HU
        generalize C[k] = p at *
        generalize D[k] = q at *
        clear hk1 hk2
        have hk3 : (k : Int) < (n : Int) := by omega
        by_cases hpq : p.length = q.length
        · obtain ⟨m, hm⟩ : ∃ m, p.length = m := ⟨_, rfl⟩
          have hm2 : q.length = m := by omega
          have HP := mkHid hm
          have HQ := mkHid hm2
          rw [hm] at g1 l1 E1
          rw [hm2] at g2 l2 E2
          clear hm hm2 hpq
          have hm9 : m ≤ 9223372036854775807 := by omega
          go_wp2_with fail
          go_quiet (fail)
          go_wp2
          clear g1 g2
          have BV : Hid (Below w.heap.size w (wr.drewN nq)) := below_drewN BW.out nq
          generalize wr.drewN nq = V at *
          go_loopw [6] (fun i w' => ∃ (j : Nat) (x : Int), i = .int .i64 x ∧ x = j ∧ j ≤ m ∧ Hid (Below w.heap.size w w') ∧ Hid (p.take j = q.take j)) (fun i _ => (m - intOf i).toNat)
          case atStart => exact ⟨0, 0, rfl, rfl, Nat.zero_le _, BV, mkHid (by simp)⟩
          case round =>
            obtain ⟨j, y, rfl, hxj, hj, BX, HF⟩ := hrel
            obtain rfl : y = (j : Int) := hxj
            have g1 := cell_later BX.out E1.out
            have g2 := cell_later BX.out E2.out
            by_cases hlj : j < m
            · have hj1 : j < p.length := by rw [HP.out]; exact hlj
              have hj2 : j < q.length := by rw [HQ.out]; exact hlj
              obtain ⟨b3, o3, rfl, hb3, e3⟩ := F1.out j hj1
              obtain ⟨b4, o4, rfl, hb4, e4⟩ := F2.out j hj2
              have HNF : Hid (p[j] ≠ q[j] → p ≠ q) := fun h e => h (by subst e; rfl)
              have HTF : Hid (p[j] = q[j] → p.take (j + 1) = q.take (j + 1)) := fun h => take_both hj1 hj2 HF.out h
              have g3 := cell_later BX.out e3
              have g4 := cell_later BX.out e4
              clear e3 e4 F1 F2
              generalize p[j] = s at *
              generalize q[j] = t at *
              clear hj1 hj2
              have hj3 : (j : Int) < (m : Int) := by omega
              by_cases hst : s = t
              · have hs2 : (s != t) = false := by rw [hst]; simp
                have HT := mkHid (HTF.out hst)
                clear HTF HNF
                go_wp2_with fail
                go_quiet (fail)
                go_wp2
                go_roundw
                case rel => exact ⟨j + 1, _, rfl, by omega, by omega, mkHid (below_drewN BX.out nq), HT⟩
                case measure => simp [intOf]; omega
              · have hs2 : (s != t) = true := by rw [bne_iff_ne]; exact hst
                have HD : Hid (decide (C = D) = false) := decide_eq_false (HNE.out (HNF.out hst))
                clear HTF HNF HNE HTB
                go_wp2_with fail
                go_quiet (fail)
                go_wp2
                go_ret
                exact ⟨by rw [HD.out]; rfl, below_drewN BX.out nq⟩
            · obtain rfl : j = m := by omega
              have HT : Hid (C.take (k + 1) = D.take (k + 1)) := HTB.out (by
                have := HF.out
                rwa [List.take_of_length_le (by rw [HP.out]; exact Nat.le_refl _), List.take_of_length_le (by rw [HQ.out]; exact Nat.le_refl _)] at this)
              go_wp2
              go_roundw
              case rel => exact ⟨k + 1, _, rfl, by omega, by omega, BX, HT⟩
              case measure => simp [intOf]; omega
        · have hne : ((p.length : Int) != (q.length : Int)) = true := by rw [bne_iff_ne]; omega
          have HD : Hid (decide (C = D) = false) := decide_eq_false (HNE.out (fun e => hpq (by rw [e])))
          have hp9 : p.length ≤ 9223372036854775807 := by omega
          have hq9 : q.length ≤ 9223372036854775807 := by omega
          clear hpq HNE HTB F1 F2 E1 E2
          generalize p.length = lp at *
          generalize q.length = lq at *
          go_wp2_with fail
          go_quiet (fail)
          go_wp2
          go_ret
          exact ⟨by rw [HD.out]; rfl, below_drewN BW.out nq⟩
      · obtain rfl : k = n := by omega
        have HD : Hid (decide (C = D) = true) := decide_eq_true (by
          have := HE.out
          rwa [List.take_of_length_le (by rw [HN.out]; exact Nat.le_refl _), List.take_of_length_le (by rw [HM.out]; exact Nat.le_refl _)] at this)
        go_wp2
        go_ret
        exact ⟨by rw [HD.out]; rfl, BW.out⟩
  · have hne : ((C.length : Int) != (D.length : Int)) = true := by rw [bne_iff_ne]; omega
    have HD : Hid (decide (C = D) = false) := decide_eq_false (fun e => hl (by rw [e]))
    have h9 : C.length ≤ 9223372036854775807 := by omega
    have h9' : D.length ≤ 9223372036854775807 := by omega
    clear hl HV HU
    generalize C.length = lp at *
    generalize D.length = lq at *
    go_enter Tryd.func38, Tryd.ntmps38
    go_wp2
    go_ret
    exact ⟨by rw [HD.out]; rfl, Below.refl _ _⟩
end Go.Proofs.YtaiachmolkjedaaDoor
