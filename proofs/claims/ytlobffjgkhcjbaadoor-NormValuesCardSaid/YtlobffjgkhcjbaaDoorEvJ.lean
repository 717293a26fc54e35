/-
  Which worlds are right: what 'holds' and 'Right' of package eval answer.
-/
import Derived.Test.YtlobffjgkhcjbaaDoorEvD
namespace Go.Proofs.YtlobffjgkhcjbaaDoor
open Go.RowKit

theorem beq_nat (m : Nat) : ((m : Int) == 0) = decide (m = 0) := by
  rw [Bool.eq_iff_iff]; simp
theorem beq_int (m n : Int) : (m == n) = decide (m = n) := by
  rw [Bool.eq_iff_iff]; simp
theorem ret_bool {a b : Bool} (h : a = b) : Ending.returned (.bool a) = .returned (.bool b) := by rw [h]
set_option maxRecDepth 100000 in
set_option maxHeartbeats 2000000 in
theorem hold_any (W : Wd) (v : Vl) (w : World) (hm : v.s.length ≤ 9223372036854775807) :
    Calls Tryd.prog 71 #[W.val, v.val] w (RetB (holdsV W.nodes v) w) := by
  obtain ⟨so, nn, bb, aa, cc, ss⟩ := v
  unfold Wd.val Vl.val holdsV
  simp only at hm ⊢
  have BW : Below w.heap.size w ((w.alloc (boxP W)).alloc (.cells #[.int .i64 so, .int .i64 nn, .bool bb, .slice aa ss.length cc] 54)) := bal (bal (Below.refl _ _) _) _
  unfold boxP at BW
  generalize ss.length = m at *
  have e0 := mkHid (beq_nat m)
  have e9 := mkHid (beq_int m W.nodes)
  by_cases h1 : so = 1
  · subst h1
    cases bb
    all_goals
      go_enter Tryd.func71, Tryd.ntmps71
      go_wp2
      go_ret
      first
        | exact ⟨rfl, BW⟩
        | exact ⟨ret_bool e0.out, BW⟩
  · have e1 : (so == 1) = false := beq_eq_false_iff_ne.2 h1
    rw [if_neg h1]
    by_cases h2 : so = 2
    · subst h2
      cases hn : (nn == 0) <;> cases bb
      all_goals
        go_enter Tryd.func71, Tryd.ntmps71
        go_wp2
        go_ret
        first
          | exact ⟨rfl, BW⟩
          | exact ⟨ret_bool e9.out, BW⟩
    · have e2 : (so == 2) = false := beq_eq_false_iff_ne.2 h2
      rw [if_neg h2]
      by_cases h3 : so = 3
      · subst h3
        cases hn : decide (0 ≤ nn) <;> cases hx : decide (nn < W.nodes) <;> cases bb
        all_goals
          go_enter Tryd.func71, Tryd.ntmps71
          go_wp2
          go_ret
          first
            | exact ⟨rfl, BW⟩
            | exact ⟨ret_bool e0.out, BW⟩
      · have e3 : (so == 3) = false := beq_eq_false_iff_ne.2 h3
        rw [if_neg h3]
        by_cases h4 : so = 4
        · subst h4
          cases hn : (nn == 0)
          all_goals
            go_enter Tryd.func71, Tryd.ntmps71
            go_wp2
            go_ret
            first
              | exact ⟨rfl, BW⟩
              | exact ⟨ret_bool e0.out, BW⟩
        · have e4 : (so == 4) = false := beq_eq_false_iff_ne.2 h4
          rw [if_neg h4]
          go_enter Tryd.func71, Tryd.ntmps71
          go_wp2
          go_ret
          exact ⟨rfl, BW⟩

/-- is the i-th name right? -/
def rightN (W : Wd) (i : Nat) (x : Nd) : Bool := nameB x.nm && holdsV W.nodes x.v && (findN x.nm x.v.sort W.l 0 == (i : Int))
def rightL (W : Wd) : List Nd → Nat → Bool
  | [], _ => true
  | x :: l, i => rightN W i x && rightL W l (i + 1)
def rightB (W : Wd) : Bool := decide (1 ≤ W.nodes) && decide (W.nodes ≤ 64) && decide (W.l.length ≤ 64) && rightL W W.l 0
theorem rightL_drop (W : Wd) (l : List Nd) (k : Nat) (h : k < l.length) : rightL W (l.drop k) k = (rightN W k l[k] && rightL W (l.drop (k + 1)) (k + 1)) := by
  rw [List.drop_eq_getElem_cons h]; rfl
theorem rightL_all {W : Wd} : ∀ {l : List Nd} {k : Nat}, rightL W l k = true → ∀ x ∈ l, nameB x.nm = true ∧ holdsV W.nodes x.v = true
  | [], _, _, x, hx => by cases hx
  | y :: l, k, h, x, hx => by
    simp only [rightL, rightN, Bool.and_eq_true] at h
    rcases List.mem_cons.1 hx with rfl | hx
    · exact h.1.1
    · exact rightL_all h.2 x hx
theorem right_rt {W : Wd} {w : World} {B : Nat} (h : rightB W = true) (hin : WIn w B W) : Rt W := by
  simp only [rightB, Bool.and_eq_true, decide_eq_true_eq] at h
  exact ⟨h.1.1.1, h.1.1.2, fun x hx => ⟨(rightL_all h.2 x hx).2, (hin.vs x hx).2.n⟩⟩

set_option maxRecDepth 100000 in
set_option maxHeartbeats 2000000 in
theorem right_any (W : Wd) (w : World) (hin : WIn w w.heap.size W) :
    Calls Tryd.prog 40 #[W.val] w (RetB (rightB W) w) := by
  have hn : W.l.length ≤ 9223372036854775807 := by have := hin.c; have := hin.m; unfold maxLen at this; omega
  have hw2 : Below w.heap.size w ((w.alloc (boxW W)).alloc (boxP W)) := bal (bal (Below.refl _ _) _) _
  have TWP : TwoW ((w.alloc (boxW W)).alloc (boxP W)) (w.heap.size + 1) W := by simp [TwoW, boxP, go_sem]
  have KP := mkHid (fun (wr : World) (hb : Below ((w.alloc (boxW W)).alloc (boxP W)).heap.size ((w.alloc (boxW W)).alloc (boxP W)) wr) => TWP.later hb)
  have HIN := mkHid hin
  clear hin
  generalize hW2 : (w.alloc (boxW W)).alloc (boxP W) = W2 at *
  unfold boxW boxP at hW2
  obtain ⟨p0, p1⟩ := id TWP
  by_cases hc : 1 ≤ W.nodes ∧ W.nodes ≤ 64 ∧ W.l.length ≤ 64
  · obtain ⟨c1, c2, c3⟩ := hc
    have d1 : decide (W.nodes < 1) = false := decide_eq_false (by omega)
    have d2 : decide (64 < W.nodes) = false := decide_eq_false (by omega)
    have d3 : decide (64 < W.l.length) = false := decide_eq_false (by omega)
    have hR : Hid (rightL W (W.l.drop 0) 0 = rightB W) := by show _ = _; simp [rightB, c1, c2, c3]
    generalize rightB W = R at *
    generalize hlen : W.l.length = n at *
    have HLN := mkHid hlen
    clear hlen
    unfold Wd.val
    rw [HLN.out]
    go_enter Tryd.func40, Tryd.ntmps40
    go_wp2
    clear p0 p1 hW2
    go_loopw [29] (fun i w' => ∃ (k : Nat) (x : Int), i = .int .i64 x ∧ x = k ∧ k ≤ n ∧ Below W2.heap.size W2 w' ∧ Hid (rightL W (W.l.drop k) k = R)) (fun i _ => (n - intOf i).toNat)
    case atStart => exact ⟨0, 0, rfl, rfl, Nat.zero_le _, Below.refl _ _, hR⟩
    case round =>
      obtain ⟨k, x, rfl, hxk, hk, hb, hal⟩ := hrel
      obtain rfl : x = (k : Int) := hxk
      clear hR
      have hbw : Below w.heap.size w wr := bon hw2 hb
      by_cases hlt : k < n
      · have hk' : k < W.l.length := by rw [HLN.out]; exact hlt
        obtain ⟨b, o, ha, hbB, kf⟩ := HIN.out.at_ k hk'
        have kf' := kf.keep hbw hbB
        have hsu := hal.out
        rw [rightL_drop W W.l k hk'] at hsu
        have HSU := mkHid hsu
        have hvv := HIN.out.vs _ (List.getElem_mem hk')
        rw [ha]
        clear ha kf hsu hal
        generalize W.l[k] = q at *
        clear hk'
        obtain ⟨g0, g1, g2, g3, g4⟩ := kf'
        have hb2 := bel_alloc wr (boxN q)
        obtain ⟨f0, f1, f2, f3, f4⟩ := boxN_five wr q
        simp only [Nat.zero_add] at f1 f2 f3 f4
        obtain ⟨p0, p1⟩ := (KP.out wr hb).later hb2
        rw [HLN.out] at p1
        have hW3 : wr.alloc (.cells #[.string q.nm, .int .i64 q.v.sort, .int .i64 q.v.n, .bool q.v.b, .slice q.v.a q.v.s.length q.v.c] 91) = wr.alloc (boxN q) := rfl
        have hB2 := bon hb hb2
        have FN := mkHid (fun w' (hb' : Below (wr.alloc (boxN q)).heap.size (wr.alloc (boxN q)) w') => find_any W q.nm q.v.sort w' (HIN.out.later (bon (bon hbw hb2) hb')))
        generalize wr.alloc (boxN q) = W3 at *
        have NC := mkHid (name_any q.nm W3 hvv.1)
        have HC := mkHid (fun w' => hold_any W q.v w' (by have h1 := hvv.2.c; have h2 := hvv.2.m; unfold maxLen at h2; omega))
        unfold Wd.val Vl.val at HC
        unfold Wd.val at FN
        rw [HLN.out] at HC FN
        unfold rightN at HSU
        clear hvv hb2
        generalize findN q.nm q.v.sort W.l 0 = fi at *
        cases hnm : nameB q.nm
        · rw [hnm] at NC HSU
          have hRf : R = false := by have := HSU.out; simpa using this.symm
          subst hRf
          clear HSU hnm
          go_wp2_with fail
          ((with_reducible refine NC.out.mono ?_)); rintro e w4 ⟨rfl, rfl⟩
          go_wp2
          go_ret
          exact ⟨rfl, bon hw2 hB2⟩
        · rw [hnm] at NC HSU
          clear hnm
          cases hhv : holdsV W.nodes q.v
          · rw [hhv] at HC HSU
            have hRf : R = false := by have := HSU.out; simpa using this.symm
            subst hRf
            clear HSU hhv
            go_wp2_with fail
            ((with_reducible refine NC.out.mono ?_)); rintro e w4 ⟨rfl, rfl⟩
            go_wp2_with fail
            ((with_reducible refine (HC.out _).mono ?_)); rintro e w5 ⟨rfl, hb5⟩
            go_wp2
            go_ret
            exact ⟨rfl, bon (bon hw2 hB2) hb5⟩
          · rw [hhv] at HC HSU
            clear hhv
            cases hfi : (fi == (k : Int))
            · rw [hfi] at HSU
              have hRf : R = false := by have := HSU.out; simpa using this.symm
              have hne : (fi != (k : Int)) = true := by rw [bne, hfi]; rfl
              subst hRf
              clear HSU hfi
              go_wp2_with fail
              ((with_reducible refine NC.out.mono ?_)); rintro e w4 ⟨rfl, rfl⟩
              go_wp2_with fail
              ((with_reducible refine (HC.out _).mono ?_)); rintro e w5 ⟨rfl, hb5⟩
              have f0' := cell_later hb5 f0
              have f1' := cell_later hb5 f1
              have p0' := cell_later hb5 p0
              have p1' := cell_later hb5 p1
              go_wp2_with fail
              ((with_reducible refine (FN.out _ hb5).mono ?_)); rintro e w6 ⟨rfl, hb6⟩
              go_wp2
              go_ret
              exact ⟨rfl, bon (bon (bon hw2 hB2) hb5) hb6⟩
            · rw [hfi] at HSU
              have hne : (fi != (k : Int)) = false := by rw [bne, hfi]; rfl
              clear hfi
              go_wp2_with fail
              ((with_reducible refine NC.out.mono ?_)); rintro e w4 ⟨rfl, rfl⟩
              go_wp2_with fail
              ((with_reducible refine (HC.out _).mono ?_)); rintro e w5 ⟨rfl, hb5⟩
              have f0' := cell_later hb5 f0
              have f1' := cell_later hb5 f1
              have p0' := cell_later hb5 p0
              have p1' := cell_later hb5 p1
              go_wp2_with fail
              ((with_reducible refine (FN.out _ hb5).mono ?_)); rintro e w6 ⟨rfl, hb6⟩
              have B6 := bon (bon hB2 hb5) hb6
              go_wp2
              go_roundw
              case rel => exact ⟨k + 1, _, rfl, by omega, by omega, B6, by simpa using HSU⟩
              case measure => simp [intOf]; omega
      · have hRt : R = true := by
          have := hal.out
          rw [List.drop_eq_nil_of_le (by rw [HLN.out]; omega)] at this
          exact this.symm
        subst hRt
        clear hal
        go_wp2
        go_ret
        exact ⟨rfl, hbw⟩
  · have hRf : rightB W = false := by
      unfold rightB
      by_cases a : 1 ≤ W.nodes
      · by_cases b : W.nodes ≤ 64
        · have c : ¬ W.l.length ≤ 64 := fun c => hc ⟨a, b, c⟩
          simp [c]
        · simp [b]
      · simp [a]
    rw [hRf]
    unfold Wd.val
    clear hRf KP TWP
    by_cases a : 1 ≤ W.nodes
    · have d1 : decide (W.nodes < 1) = false := decide_eq_false (by omega)
      by_cases b : W.nodes ≤ 64
      · have d2 : decide (64 < W.nodes) = false := decide_eq_false (by omega)
        have c : 64 < W.l.length := by
          rcases Nat.lt_or_ge 64 W.l.length with h | h
          · exact h
          · exact absurd ⟨a, b, h⟩ hc
        have d3 : decide (64 < W.l.length) = true := decide_eq_true c
        clear hc
        go_enter Tryd.func40, Tryd.ntmps40
        go_wp2
        go_ret
        exact ⟨rfl, hw2⟩
      · have d2 : decide (64 < W.nodes) = true := decide_eq_true (by omega)
        clear hc
        go_enter Tryd.func40, Tryd.ntmps40
        go_wp2
        go_ret
        exact ⟨rfl, hw2⟩
    · have d1 : decide (W.nodes < 1) = true := decide_eq_true (by omega)
      clear hc
      go_enter Tryd.func40, Tryd.ntmps40
      go_wp2
      go_ret
      exact ⟨rfl, hw2⟩
end Go.Proofs.YtlobffjgkhcjbaaDoor
