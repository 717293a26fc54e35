/-
  What the document's 'same' answers of any two terms.
-/
import Derived.Test.YtaibmdikimpooaaDoorTmH
import Derived.BigRegion
import Derived.Deep.RegionHeld2
namespace Go.Proofs.YtaibmdikimpooaaDoor
open Go.RowKit

mutual
/-- are two terms the same, wherever they lie? -/
def eqT : Tm → Tm → Bool
  | .node o s n _ _ ks, .node o' s' n' _ _ ks' => (o == o') && (s.toList == s'.toList) && (n == n') && eqTs ks ks'
def eqTs : List Tm → List Tm → Bool
  | [], [] => true
  | a :: l, b :: l' => eqT a b && eqTs l l'
  | _, _ => false
end
theorem eqT_eq (a b : Tm) : eqT a b = ((a.op == b.op) && (a.nm.toList == b.nm.toList) && (a.n == b.n) && eqTs a.ks b.ks) := by
  cases a; cases b; simp only [eqT, Tm.op, Tm.nm, Tm.n, Tm.ks]
theorem eqTs_len : ∀ {l l' : List Tm}, l.length ≠ l'.length → eqTs l l' = false
  | [], [], h => absurd rfl h
  | [], _ :: _, _ => by simp [eqTs]
  | _ :: _, [], _ => by simp [eqTs]
  | a :: l, b :: l', h => by simp only [eqTs]; rw [eqTs_len (l := l) (l' := l') (by simpa using h), Bool.and_false]
theorem eqTs_drop {l l' : List Tm} {k : Nat} (h : k < l.length) (h' : k < l'.length) : eqTs (l.drop k) (l'.drop k) = (eqT l[k] l'[k] && eqTs (l.drop (k + 1)) (l'.drop (k + 1))) := by
  rw [List.drop_eq_getElem_cons h, List.drop_eq_getElem_cons h']; simp only [eqTs]
theorem eqT_self : ∀ t : Tm, eqT t t = true := by
  intro t
  induction t using Tm.ind with
  | h t ih =>
    have : ∀ ks : List Tm, (∀ k ∈ ks, eqT k k = true) → eqTs ks ks = true := by
      intro ks
      induction ks with
      | nil => intro _; simp [eqTs]
      | cons a l ihl => intro h; simp only [eqTs]; rw [h a (by simp), ihl (fun k hk => h k (by simp [hk]))]; rfl
    rw [eqT_eq, this t.ks ih]
    simp
theorem eight_cells {w w' : World} {p0 p1 p2 p3 p4 p5 p6 p7 p8 p9 : Addr} {v0 v1 v2 v3 v4 v5 v6 v7 v8 v9 : Value} (h : w.cell? p0 = some v0 ∧ w.cell? p1 = some v1 ∧ w.cell? p2 = some v2 ∧ w.cell? p3 = some v3 ∧ w.cell? p4 = some v4 ∧ w.cell? p5 = some v5 ∧ w.cell? p6 = some v6 ∧ w.cell? p7 = some v7 ∧ w.cell? p8 = some v8 ∧ w.cell? p9 = some v9) (hb : Below w.heap.size w w') : w'.cell? p0 = some v0 ∧ w'.cell? p1 = some v1 ∧ w'.cell? p2 = some v2 ∧ w'.cell? p3 = some v3 ∧ w'.cell? p4 = some v4 ∧ w'.cell? p5 = some v5 ∧ w'.cell? p6 = some v6 ∧ w'.cell? p7 = some v7 ∧ w'.cell? p8 = some v8 ∧ w'.cell? p9 = some v9 := by
  obtain ⟨x0, x1, x2, x3, x4, x5, x6, x7, x8, x9⟩ := h
  exact ⟨cell_later hb x0, cell_later hb x1, cell_later hb x2, cell_later hb x3, cell_later hb x4, cell_later hb x5, cell_later hb x6, cell_later hb x7, cell_later hb x8, cell_later hb x9⟩

set_option maxRecDepth 100000 in
set_option maxHeartbeats 4000000 in
theorem rsame_any : ∀ (t u : Tm) (w : World), TIn w w.heap.size t → TIn w w.heap.size u →
    Calls Tryd.prog 42 #[t.val, u.val] w fun e w' => e = .returned (.bool (eqT t u)) ∧ Below w.heap.size w w' := by
  intro t
  induction t using Tm.ind with
  | h t ih =>
    intro u w ht hu
    have IH := mkHid ih
    clear ih
    have hlt := ht.nums.2.2.2
    have hlu := hu.nums.2.2.2
    unfold maxLen at hlt hlu
    have HT := mkHid ht
    have HU := mkHid hu
    clear ht hu
    have B0 : Below w.heap.size w ((w.alloc (boxT t)).alloc (boxT u)) := bal (bal (Below.refl _ _) _) _
    have F1 : Four ((w.alloc (boxT t)).alloc (boxT u)) w.heap.size 0 t := (box_four w t).later (bel_alloc _ _)
    have F2 : Four ((w.alloc (boxT t)).alloc (boxT u)) (w.heap.size + 1) 0 u := by have := box_four (w.alloc (boxT t)) u; simpa using this
    have hW2 : (w.alloc (.cells #[.int .i64 t.op, .string t.nm, .int .i64 t.n, .slice t.a t.ks.length t.c] 24)).alloc (.cells #[.int .i64 u.op, .string u.nm, .int .i64 u.n, .slice u.a u.ks.length u.c] 24) = (w.alloc (boxT t)).alloc (boxT u) := rfl
    generalize (w.alloc (boxT t)).alloc (boxT u) = W2 at *
    have HR := mkHid (eqT_eq t u)
    generalize eqT t u = R at *
    obtain ⟨x0, x1, x2, x3⟩ := id F1
    obtain ⟨y0, y1, y2, y3⟩ := id F2
    simp only [Nat.zero_add] at x1 x2 x3 y1 y2 y3
    unfold Tm.val
    cases c1 : (t.op == u.op)
    · rw [c1] at HR
      have hR : R = false := HR.out
      subst hR
      have n1 : (t.op != u.op) = true := by rw [bne, c1]; rfl
      clear HR c1
      go_enter Tryd.func42, Tryd.ntmps42
      go_wp2
      go_ret
      exact ⟨rfl, B0⟩
    · have n1 : (t.op != u.op) = false := by rw [bne, c1]; rfl
      rw [c1] at HR
      cases c2 : (t.nm.toList == u.nm.toList)
      · rw [c2] at HR
        have hR : R = false := HR.out
        subst hR
        clear HR c1
        go_enter Tryd.func42, Tryd.ntmps42
        go_wp2
        go_ret
        exact ⟨rfl, B0⟩
      · rw [c2] at HR
        cases c3 : (t.n == u.n)
        · rw [c3] at HR
          have hR : R = false := HR.out
          subst hR
          have n3 : (t.n != u.n) = true := by rw [bne, c3]; rfl
          clear HR c1 c3
          go_enter Tryd.func42, Tryd.ntmps42
          go_wp2
          go_ret
          exact ⟨rfl, B0⟩
        · rw [c3] at HR
          have n3 : (t.n != u.n) = false := by rw [bne, c3]; rfl
          have HR2 : Hid (R = eqTs (t.ks.drop 0) (u.ks.drop 0)) := by
            show _ = _
            have := HR.out
            simpa using this
          clear HR c1 c3
          by_cases hl : t.ks.length = u.ks.length
          · have HL := mkHid hl
            clear hl
            generalize hm' : u.ks.length = m at *
            have HM := mkHid hm'
            clear hm'
            generalize hn' : t.ks.length = n at *
            have HN := mkHid hn'
            clear hn'
            obtain rfl : n = m := HL.out
            have n4 : ((n : Int) != (n : Int)) = false := by simp
            go_enter Tryd.func42, Tryd.ntmps42
            go_wp2
            clear x0 x1 x2 x3 y0 y1 y2 y3 hW2
            go_loopw [5] (fun i w' => ∃ (k : Nat) (x : Int), i = .int .i64 x ∧ x = k ∧ k ≤ n ∧ Below W2.heap.size W2 w' ∧ Hid (R = eqTs (t.ks.drop k) (u.ks.drop k))) (fun i _ => (n - intOf i).toNat)
            case atStart => exact ⟨0, 0, rfl, rfl, Nat.zero_le _, Below.refl _ _, HR2⟩
            case round =>
              obtain ⟨k, x, rfl, hxk, hk, hb, hal⟩ := hrel
              obtain rfl : x = (k : Int) := hxk
              clear HR2
              have BB := bon B0 hb
              have x3 := (F1.later hb).2.2.2
              have y3 := (F2.later hb).2.2.2
              simp only [Nat.zero_add] at x3 y3
              rw [HN.out] at x3
              rw [HM.out] at y3
              by_cases hlt2 : k < n
              · have hk1 : k < t.ks.length := by rw [HN.out]; exact hlt2
                have hk2 : k < u.ks.length := by rw [HM.out]; exact hlt2
                obtain ⟨kin1, b1, o1, ha1, hB1, kf1⟩ := HT.out.kid k hk1
                obtain ⟨kin2, b2, o2, ha2, hB2, kf2⟩ := HU.out.kid k hk2
                have C := mkHid (fun w' (hb' : Below wr.heap.size wr w') => IH.out t.ks[k] (List.getElem_mem _) u.ks[k] w' (kin1.later (bon BB hb')) (kin2.later (bon BB hb')))
                have q1 := kf1.keep BB hB1
                have q2 := kf2.keep BB hB2
                rw [eqTs_drop hk1 hk2] at hal
                rw [ha1] at x3
                rw [ha2] at y3
                clear kf1 kf2 kin1 kin2 ha1 ha2 IH
                generalize t.ks[k] = p at *
                generalize u.ks[k] = q at *
                clear hk1 hk2
                obtain ⟨q10, q11, q12, q13⟩ := q1
                obtain ⟨q20, q21, q22, q23⟩ := q2
                unfold Tm.val at C
                cases he : eqT p q
                all_goals
                  rw [he] at C hal
                  clear he
                  go_wp2_with fail
                  (try dsimp only [List.append])
                  refine wp_region_held_drew (S := fun w' => w'.cell? ⟨w.heap.size, 3, none⟩ = some (.slice (some ⟨b1, o1, none⟩) n t.c) ∧ w'.cell? ⟨w.heap.size + 1, 3, none⟩ = some (.slice (some ⟨b2, o2, none⟩) n u.c) ∧ w'.cell? ⟨b1, o1 + k * 4, none⟩ = some (.int .i64 p.op) ∧ w'.cell? ⟨b1, o1 + k * 4 + 1, none⟩ = some (.string p.nm) ∧ w'.cell? ⟨b1, o1 + k * 4 + 2, none⟩ = some (.int .i64 p.n) ∧ w'.cell? ⟨b1, o1 + k * 4 + 3, none⟩ = some (.slice p.a p.ks.length p.c) ∧ w'.cell? ⟨b2, o2 + k * 4, none⟩ = some (.int .i64 q.op) ∧ w'.cell? ⟨b2, o2 + k * 4 + 1, none⟩ = some (.string q.nm) ∧ w'.cell? ⟨b2, o2 + k * 4 + 2, none⟩ = some (.int .i64 q.n) ∧ w'.cell? ⟨b2, o2 + k * 4 + 3, none⟩ = some (.slice q.a q.ks.length q.c)) (by kernel_rfl) ⟨x3, y3, q10, q11, q12, q13, q20, q21, q22, q23⟩ (fun hHeld => ?_)
                  refine wpAnyH_take (i := 0) (v := ?_) rfl (by kernel_rfl) (by kernel_rfl) (by kernel_rfl) (fun _ _ _ h => h) (Or.inl ⟨by kernel_rfl, ?_⟩) (by assumption) ?_
                  rotate_left
                  · (intro w hSw; (try dsimp only at hSw); go_simp; try with_reducible rfl)
                  simp only [Act.put, List.getElem_toArray, List.getElem_cons_zero, List.setIfInBounds_toArray, List.set_cons_zero, List.set_cons_succ]
                  refine wpAnyH_take (i := 1) (v := ?_) rfl (by kernel_rfl) (by kernel_rfl) (by kernel_rfl) (fun _ _ _ h => h) (Or.inl ⟨by kernel_rfl, ?_⟩) (by assumption) ?_
                  rotate_left
                  · (intro w hSw; (try dsimp only at hSw); go_simp; try with_reducible rfl)
                  simp only [Act.put, List.getElem_toArray, List.getElem_cons_succ, List.getElem_cons_zero, List.setIfInBounds_toArray, List.set_cons_zero, List.set_cons_succ]
                  refine wpAnyH_take (i := 2) (v := ?_) rfl (by kernel_rfl) (by kernel_rfl) (by kernel_rfl) (fun _ _ _ h => h) (Or.inl ⟨by kernel_rfl, ?_⟩) (by assumption) ?_
                  rotate_left
                  · (intro w hSw; (try dsimp only at hSw); go_simp; try with_reducible rfl)
                  simp only [Act.put, List.getElem_toArray, List.getElem_cons_succ, List.getElem_cons_zero, List.setIfInBounds_toArray, List.set_cons_zero, List.set_cons_succ]
                  refine wpAnyH_take (i := 3) (v := ?_) rfl (by kernel_rfl) (by kernel_rfl) (by kernel_rfl) (fun _ _ _ h => h) (Or.inl ⟨by kernel_rfl, ?_⟩) (by assumption) ?_
                  rotate_left
                  · (intro w hSw; (try dsimp only at hSw); go_simp; try with_reducible rfl)
                  simp only [Act.put, List.getElem_toArray, List.getElem_cons_succ, List.getElem_cons_zero, List.setIfInBounds_toArray, List.set_cons_zero, List.set_cons_succ]
                  refine wpAnyH_take (i := 4) (v := ?_) rfl (by kernel_rfl) (by kernel_rfl) (by kernel_rfl) (fun _ _ _ h => h) (Or.inl ⟨by kernel_rfl, ?_⟩) (by assumption) ?_
                  rotate_left
                  · (intro w hSw; (try dsimp only at hSw); go_simp; try with_reducible rfl)
                  simp only [Act.put, List.getElem_toArray, List.getElem_cons_succ, List.getElem_cons_zero, List.setIfInBounds_toArray, List.set_cons_zero, List.set_cons_succ]
                  refine wpAnyH_take (i := 5) (v := ?_) rfl (by kernel_rfl) (by kernel_rfl) (by kernel_rfl) (fun _ _ _ h => h) (Or.inl ⟨by kernel_rfl, ?_⟩) (by assumption) ?_
                  rotate_left
                  · (intro w hSw; (try dsimp only at hSw); go_simp; try with_reducible rfl)
                  simp only [Act.put, List.getElem_toArray, List.getElem_cons_succ, List.getElem_cons_zero, List.setIfInBounds_toArray, List.set_cons_zero, List.set_cons_succ]
                  refine wpAnyH_take (i := 6) (v := ?_) rfl (by kernel_rfl) (by kernel_rfl) (by kernel_rfl) (fun _ _ _ h => h) (Or.inl ⟨by kernel_rfl, ?_⟩) (by assumption) ?_
                  rotate_left
                  · (intro w hSw; (try dsimp only at hSw); go_simp; try with_reducible rfl)
                  simp only [Act.put, List.getElem_toArray, List.getElem_cons_succ, List.getElem_cons_zero, List.setIfInBounds_toArray, List.set_cons_zero, List.set_cons_succ]
                  refine wpAnyH_take (i := 7) (v := ?_) rfl (by kernel_rfl) (by kernel_rfl) (by kernel_rfl) (fun _ _ _ h => h) (Or.inl ⟨by kernel_rfl, ?_⟩) (by assumption) ?_
                  rotate_left
                  · (intro w hSw; (try dsimp only at hSw); go_simp; try with_reducible rfl)
                  simp only [Act.put, List.getElem_toArray, List.getElem_cons_succ, List.getElem_cons_zero, List.setIfInBounds_toArray, List.set_cons_zero, List.set_cons_succ]
                  refine wpAnyH_take (i := 8) (v := ?_) rfl (by kernel_rfl) (by kernel_rfl) (by kernel_rfl) (fun _ _ _ h => h) (Or.inl ⟨by kernel_rfl, ?_⟩) (by assumption) ?_
                  rotate_left
                  · (intro w hSw; (try dsimp only at hSw); go_simp; try with_reducible rfl)
                  simp only [Act.put, List.getElem_toArray, List.getElem_cons_succ, List.getElem_cons_zero, List.setIfInBounds_toArray, List.set_cons_zero, List.set_cons_succ]
                  refine wpAnyH_take (i := 9) (v := ?_) rfl (by kernel_rfl) (by kernel_rfl) (by kernel_rfl) (fun _ _ _ h => h) (Or.inl ⟨by kernel_rfl, ?_⟩) (by assumption) ?_
                  rotate_left
                  · (intro w hSw; (try dsimp only at hSw); go_simp; try with_reducible rfl)
                  simp only [Act.put, List.getElem_toArray, List.getElem_cons_succ, List.getElem_cons_zero, List.setIfInBounds_toArray, List.set_cons_zero, List.set_cons_succ]
                  refine wpAnyH_ready (rs := [10]) (by kernel_rfl) (by simp) ?_
                  refine AllReadyH.cons rfl (fun K hK => ?_) AllReadyH.nil
                  go_simp
                  go_wp2_with (go_at_call 42; ((with_reducible refine (C.out _ (bdrew (Below.refl _ _))).mono ?_)); rintro e w5 ⟨rfl, hb5⟩)
                  refine hK.out _ _ (eight_cells (by assumption) hb5) (fun hHeld => ?_)
                  clear hK
                  refine wpAnyH_take (i := 11) (v := ?_) rfl (by kernel_rfl) (by kernel_rfl) (by kernel_rfl) (fun _ _ _ h => h) (Or.inl ⟨by kernel_rfl, ?_⟩) (by assumption) ?_
                  rotate_left
                  · (intro w hSw; (try dsimp only at hSw); go_simp; try with_reducible rfl)
                  simp only [Act.put, List.getElem_toArray, List.getElem_cons_succ, List.getElem_cons_zero, List.setIfInBounds_toArray, List.set_cons_zero, List.set_cons_succ]
                  refine wpAnyH_done (by kernel_rfl) ?_ _
                  have B5 := bon (bdrew hb) hb5
                · have hR : R = false := by have := hal.out; simpa using this
                  subst hR
                  clear hal
                  go_wp2
                  go_ret
                  exact ⟨rfl, bon B0 B5⟩
                · go_wp2
                  go_roundw
                  case rel => exact ⟨k + 1, _, rfl, by omega, by omega, B5, by simpa using hal⟩
                  case measure => simp [intOf]; omega
              · have hR : R = true := by
                  have := hal.out
                  rw [List.drop_eq_nil_of_le (by rw [HN.out]; omega), List.drop_eq_nil_of_le (by rw [HM.out]; omega)] at this
                  simpa [eqTs] using this
                subst hR
                clear hal
                go_wp2
                go_ret
                exact ⟨rfl, BB⟩
          · have hR : R = false := by
              have := HR2.out
              rw [List.drop_zero, List.drop_zero, eqTs_len hl] at this
              exact this
            subst hR
            have n4 : ((t.ks.length : Int) != (u.ks.length : Int)) = true := by rw [bne_iff_ne]; omega
            clear HR2 hl
            go_enter Tryd.func42, Tryd.ntmps42
            go_wp2
            go_ret
            exact ⟨rfl, B0⟩
end Go.Proofs.YtaibmdikimpooaaDoor
