/-
  The document's clauses: Imp.
-/
import Derived.Test.YtaiachmolkjedaaDoorCnRb
namespace Go.Proofs.YtaiachmolkjedaaDoor
open Go.RowKit

/-- three rows in one -/
theorem three_rows {w : World} {base : Nat} {u1 u2 u3 : Value} {R1 R2 R3 : List Int} (h1 : w.ownsRow base 3 1 u1 R1.length (ints R1)) (h2 : w.ownsRow base 3 1 u2 R2.length (ints R2)) (h3 : w.ownsRow base 3 1 u3 R3.length (ints R3)) (hb : base ≤ w.heap.size) :
    CRows (w.alloc (.cells #[u1, u2, u3] 54)) base (.slice (some ⟨w.heap.size, 0, none⟩) 3 3) [R1, R2, R3] [u1, u2, u3] := by
  have b1 := bel_alloc w (.cells #[u1, u2, u3] 54)
  refine ⟨own_base (World.ownsRow_lit (base := w.heap.size) (size := 1) (e := 54) w #[u1, u2, u3] 3 (Nat.le_refl _) (by decide) rfl) hb, rfl, fun i hi hi' => ?_⟩
  match i, hi, hi' with
  | 0, _, _ => exact own_lat' h1 b1
  | 1, _, _ => exact own_lat' h2 b1
  | 2, _, _ => exact own_lat' h3 b1
  | i + 3, hi, _ => exact absurd hi (by simp)
set_option maxRecDepth 100000 in
set_option maxHeartbeats 16000000 in
theorem rcls_21 (L : List Tm) (va : Value) (t : Tm) (m : Nat) (w : World) (hin : CIn L va t m w) (ho : t.op = 21) (h4 : ∀ k ∈ t.ks, k.srt = 4) (hk2 : ∃ u v : Tm, t.ks = [u, v])
    (ih : ∀ (k : Nat) (hk : k < t.ks.length) (w' : World), CIn L va t.ks[k] (m + hlps (t.ks.take k)) w' → Calls Tryd.prog 68 #[va, t.ks[k].val, .int .i64 ((m + hlps (t.ks.take k) : Nat) : Int)] w' (ClsP L t.ks[k] (m + hlps (t.ks.take k)) w')) :
    Calls Tryd.prog 68 #[va, t.val, .int .i64 (m : Int)] w (ClsP L t m w) := by
  have hj : jnB t.op = true := by rw [ho]; rfl
  have B0 := bel_alloc w (boxT t)
  have F1 := box_four w t
  have hW : w.alloc (.cells #[.int .i64 t.op, .string t.nm, .int .i64 t.n, .slice t.a t.ks.length t.c] 24) = w.alloc (boxT t) := rfl
  have CJ := mkHid (rjoins_any t.op (w.alloc (boxT t)))
  rw [hj] at CJ
  have hse := Tm.size_eq t
  have hh1 := hlps_sizes t.ks
  have hmost := hin.most
  have hsz := hin.size
  obtain ⟨h, hh⟩ : ∃ h : Int, ((m + hlps t.ks : Nat) : Int) + 1 = h := ⟨_, rfl⟩
  have hhl : 1 ≤ h ∧ h ≤ 10000 := by omega
  have HIN := mkHid hin
  have IH := mkHid ih
  have H4 := mkHid h4
  have HJ := mkHid hj
  have hkl : t.ks.length ≤ 2000 := by
    have := len_sizes t.ks
    omega
  have HCL : Hid (∀ k, (clss L (t.ks.take k) m).length ≤ 40000) := fun k => by
    have h1 := jcls_take t.ks k
    have h2 := jcl_le t
    have h3 : jcls t.ks ≤ jcl t := by rw [← clss_len L t.ks 0, ← cls_len L t 0, cls_eq, if_pos hj, List.length_append]; omega
    rw [clss_len]
    omega
  have HLB : Hid (∀ x ∈ lits L t.ks m, x.natAbs ≤ 10000) := fun x hx => by
    have hc := hin.cov
    rw [cov_eq, if_pos hj] at hc
    have := (lits_lb L t.ks m (fun k hk m hm => lit_lb k (h4 k hk) ((covs_all L t.ks).1 hc k hk) m hm) hin.low x hx).2
    omega
  obtain ⟨l0, l1, hl01⟩ : ∃ l0 l1, lits L t.ks m = [l0, l1] := by
    obtain ⟨u, v, hk⟩ := hk2
    rw [hk]
    exact ⟨_, _, rfl⟩
  have HEQ : Hid (cls L t m = clss L t.ks m ++ [[h, l0], [h, -l1], [-h, -l0, l1]]) := by
    show _ = _
    rw [cls_eq, if_pos hj, if_neg (by omega), ho, show ((m + hlps t.ks + 1 : Nat) : Int) = h by omega]
    rw [hl01]; unfold cdef; rw [if_neg (by decide), if_pos rfl]; simp [neg0]
  obtain ⟨n, hn⟩ : ∃ n, t.ks.length = n := ⟨_, rfl⟩
  have HN := mkHid hn
  rw [Four, ho, hn] at F1
  rw [ho] at CJ
  unfold Tm.val
  rw [ho, hn] at hW ⊢
  rw [hn] at hkl
  have hm9 : m + hlps t.ks ≤ 8000 := by omega
  clear hin ih h4 hj hse hh1 hmost hsz hn ho hk2
  generalize w.alloc (boxT t) = W at *
  have HB0 := mkHid B0
  obtain ⟨f0, f1, f2, f3⟩ := F1
  simp only [Nat.zero_add] at f1 f2 f3
  have hn9 : n ≤ 9223372036854775807 := by omega
  have HM9 := mkHid hm9
  have HHH := mkHid hh
  have HHL := mkHid hhl
  clear hm9 hh
  go_enter Tryd.func68, Tryd.ntmps68
  go_wp2_with ((with_reducible refine CJ.out.mono ?_)); rintro e w1 ⟨rfl, hb1⟩; have HK0 := mkHid (cell_later hb1 f0); have HK3 := mkHid (cell_later hb1 f3); have HB1 := mkHid (bon HB0.out hb1)
  clear f0 f1 f2 f3 hW CJ B0 HB0 hb1
  have HQ0 := mkHid (CQ.start w1)
  have HB2 := mkHid (bal (bel_alloc w1 (.cells #[] 54)) (.cells #[] 3))
  go_wp2
  go_loopw [2, 7, 8, 9] (fun a p q i w' => ∃ (k : Nat) (x y : Int) (us : List Value), i = .int .i64 x ∧ x = k ∧ k ≤ n ∧ a = .int .i64 y ∧ y = ((m + hlps (t.ks.take k) : Nat) : Int) ∧ Hid (CQ w' w1.heap.size p (clss L (t.ks.take k) m) us q (lits L (t.ks.take k) m)) ∧ Hid (Below w1.heap.size w1 w')) (fun _ _ _ i _ => (n - intOf i).toNat)
  case atStart => exact ⟨0, 0, _, [], rfl, rfl, Nat.zero_le _, rfl, by simp [hlps], HQ0, HB2⟩
  case round =>
    clear HQ0 HB2
    obtain ⟨k, x, y, us, rfl, hxk, hk, rfl, hy, HQ, BX⟩ := hrel
    obtain rfl : x = (k : Int) := hxk
    have y3 := cell_later BX.out HK3.out
    by_cases hlt : k < n
    · have hk' : k < t.ks.length := by rw [HN.out]; exact hlt
      obtain ⟨kin, b, o, ha, hbl, kf⟩ := HIN.out.tin.kid k hk'
      have BW := mkHid (Below.trans HB1.out (BX.out.mono HB1.out.size))
      have KF : Hid (∀ w', Below w1.heap.size w1 w' → Four w' b (o + k * 4) t.ks[k]) := fun w' hb => kf.keep (HB1.out.trans (hb.mono HB1.out.size)) hbl
      have KIN : Hid (∀ w', Below w1.heap.size w1 w' → CIn L va t.ks[k] (m + hlps (t.ks.take k)) w') := fun w' hb => (HIN.out.kid HJ.out H4.out hk').later (HB1.out.trans (hb.mono HB1.out.size))
      have CL : Hid (∀ w', Below w1.heap.size w1 w' → Calls Tryd.prog 69 #[va, t.ks[k].val, .int .i64 y] w' (RetV (.int .i64 (lit L t.ks[k] (m + hlps (t.ks.take k)))) w')) := fun w' hb => by rw [hy]; exact (KIN.out w' hb).lit
      have CH : Hid (∀ w', Below w1.heap.size w1 w' → Calls Tryd.prog 70 #[t.ks[k].val] w' (RetV (.int .i64 (hlp t.ks[k] : Int)) w')) := fun w' hb => (KIN.out w' hb).hlp
      have CC : Hid (∀ w', Below w1.heap.size w1 w' → Calls Tryd.prog 68 #[va, t.ks[k].val, .int .i64 y] w' (ClsP L t.ks[k] (m + hlps (t.ks.take k)) w')) := fun w' hb => by rw [hy]; exact IH.out k hk' w' (KIN.out w' hb)
      have e1 := lits_take L hk' m
      have e2 := clss_take L hk' m
      have e3 := hlps_take hk'
      have e4 := hlps_take_le t.ks (k + 1)
      rw [e3] at e4
      have c1 := HCL.out (k + 1)
      rw [e2, List.length_append] at c1
      have l1' : (lits L (t.ks.take k) m).length ≤ 2000 := by rw [lits_len, List.length_take]; omega
      have HE1 := mkHid e1
      have HE2 := mkHid e2
      have m9 := HM9.out
      have b2 : y + (hlp t.ks[k] : Int) ≤ 9223372036854775807 := by omega
      have b4 : -9223372036854775808 ≤ y + (hlp t.ks[k] : Int) := by omega
      have b6 : y + (hlp t.ks[k] : Int) = ((m + hlps (t.ks.take (k + 1)) : Nat) : Int) := by rw [e3, hy]; omega
      have H6 := mkHid b6
      have HC1 := mkHid c1
      have HL1 := mkHid l1'
      rw [ha] at y3 ⊢
      have HKX : Hid (∀ w', Below w1.heap.size w1 w' → w'.cell? ⟨w.heap.size, 3, none⟩ = some (.slice (some ⟨b, o, none⟩) n t.c)) := fun w' hb => by have := cell_later hb HK3.out; rw [ha] at this; exact this
      obtain ⟨g0, g1, g2, g3⟩ := KF.out _ BX.out
      clear ha kin kf e1 e2 e3 e4 b6 hy c1 l1' m9 KIN IH HIN HEQ HHL HHH hhl HLB HCL
      clear hbl
      generalize t.ks[k] = z at *
      clear hk'
      unfold Tm.val at CL CH CC
      have hk2 : (k : Int) < (n : Int) := by omega
      generalize lit L z (m + hlps (t.ks.take k)) = lz at *
      go_wp2_with (first
        | (go_at_call 69; ((with_reducible refine (CL.out _ BX.out).mono ?_)); rintro e w4 ⟨rfl, hb4⟩; have BX4 := mkHid (bon BX.out hb4); obtain ⟨v5, w5, hrun5, hq5, hb5⟩ := CQ.num (HQ.out.later hb4) lz (Nat.le_trans HL1.out (by omega)) BX4.out.size; have HQ5 := mkHid hq5; have BX5 := mkHid (BX4.out.trans hb5); clear hb4 hb5 hq5 HQ; have z3 := HKX.out _ BX5.out; obtain ⟨p0, p1, p2, p3⟩ := KF.out _ BX5.out; clear y3 g0 g1 g2 g3)
        | (at_builtin
           refine wpList_run rfl (.tmp 35) (.tmp 37) rfl rfl (by rfl) (by rfl) hrun5 ?_; clear hrun5)
        | (go_at_call 68; ((with_reducible refine (CC.out _ BX5.out).mono ?_)); rintro e w6 ⟨v6, us6, rfl, hb6, hc6⟩; have BX6 := mkHid (bon BX5.out hb6); obtain ⟨v7, w7, hrun7, hq7, hb7⟩ := CQ.more (HQ5.out.later hb6) hc6 BX5.out.size HQ5.out.lt (Nat.le_trans HC1.out (by omega)) BX6.out.size; have HQ7 := mkHid hq7; have BX7 := mkHid (BX6.out.trans hb7); clear hb6 hb7 hq7 hc6 HQ5; have y3 := HKX.out _ BX7.out; obtain ⟨g0, g1, g2, g3⟩ := KF.out _ BX7.out; clear z3 p0 p1 p2 p3)
        | (at_builtin
           refine wpList_run rfl (.tmp 39) (.tmp 47) rfl rfl (by rfl) (by rfl) hrun7 ?_; clear hrun7)
        | (go_at_call 70; ((with_reducible refine (CH.out _ BX7.out).mono ?_)); rintro e w8 ⟨rfl, hb8⟩))
      go_roundw
      case rel => exact ⟨k + 1, _, _, us ++ us6, rfl, by omega, by omega, rfl, H6.out, mkHid (by rw [HE1.out, HE2.out]; exact HQ7.out.later hb8), mkHid (bon BX7.out hb8)⟩
      case measure => simp [intOf]; omega
    · obtain rfl : k = n := by omega
      have htk : t.ks.take k = t.ks := List.take_of_length_le (by rw [HN.out]; exact Nat.le_refl _)
      rw [htk] at hy HQ
      have z0 := cell_later BX.out HK0.out
      have hll : (lits L t.ks m).length = k := by rw [lits_len, HN.out]
      have hcl := HCL.out k
      rw [htk] at hcl
      have hyh : y + 1 = h := by rw [hy]; exact HHH.out
      have q1 : y + 1 ≤ 9223372036854775807 := by omega
      have q2 : -9223372036854775808 ≤ y + 1 := by omega
      have q3 : h ≤ 9223372036854775807 := by omega
      have q4 : -9223372036854775808 ≤ h := by omega
      have q5 : -9223372036854775808 ≤ -h := by omega
      have q6 : -h ≤ 9223372036854775807 := by omega
      have HHI := mkHid (And.intro HHL.out hll)
      clear htk IH HHH HCL hy hhl HM9 HIN H4
      have hlb0 := HLB.out l0 (by rw [hl01]; simp)
      have hlb1 := HLB.out l1 (by rw [hl01]; simp)
      rw [hl01] at HQ
      clear HLB hll hl01 HK0 HK3
      obtain ⟨g, c, e, hgl, hcell0⟩ := HQ.out.cell 0 (by simp)
      subst e
      obtain ⟨g', c', e', -, hcell1⟩ := HQ.out.cell 1 (by simp)
      simp only [Value.slice.injEq, Option.some.injEq, Addr.mk.injEq, true_and, and_true] at e'
      obtain ⟨rfl, rfl⟩ := e'
      have e2 : [l0, l1].length = 2 := rfl
      rw [e2] at HQ ⊢
      clear e2
      have hcell0' : wr.cell? ⟨g, 0, none⟩ = some (.int .i64 l0) := hcell0
      have hcell1' : wr.cell? ⟨g, 1, none⟩ = some (.int .i64 l1) := hcell1
      clear hcell0 hcell1
      have q7 : -9223372036854775808 ≤ -l0 := by omega
      have q8 : -l0 ≤ 9223372036854775807 := by omega
      have q9 : -9223372036854775808 ≤ -l1 := by omega
      have q10 : -l1 ≤ 9223372036854775807 := by omega
      have hw1 : IntKind.i64.wrap (-l0) = -l0 := by rw [IntKind.wrap_i64]; omega
      have hw2 : IntKind.i64.wrap (-l1) = -l1 := by rw [IntKind.wrap_i64]; omega
      have hw3 : IntKind.i64.wrap (-h) = -h := by rw [IntKind.wrap_i64]; omega
      have hw4 : wrap64 (-l0) = -l0 := by unfold wrap64; omega
      have hw5 : wrap64 (-l1) = -l1 := by unfold wrap64; omega
      have hw6 : wrap64 (-h) = -h := by unfold wrap64; omega
      have HCELL : Hid (∀ (w' : World) (p : Value) (C : List (List Int)) (us : List Value), CQ w' w1.heap.size p C us (.slice (some ⟨g, 0, none⟩) 2 c) [l0, l1] → w'.cell? ⟨g, 0, none⟩ = some (.int .i64 l0) ∧ w'.cell? ⟨g, 1, none⟩ = some (.int .i64 l1)) := fun w' p C us hq => by
        have h0 := hq.nums.cellAt 0 (by omega)
        have h1 := hq.nums.cellAt 1 (by omega)
        exact ⟨h0, h1⟩
      have hcl3 : (clss L t.ks m).length + 3 ≤ 100000 := by omega
      clear hcl hlb0 hlb1
      generalize clss L t.ks m = CS at *
      go_wp2_with fail
      (try dsimp only [List.append])
      refine wp_region_held_drew (S := fun w' => w'.cell? ⟨g, 0, none⟩ = some (.int .i64 l0) ∧ w'.cell? ⟨g, 1, none⟩ = some (.int .i64 l1)) (by kernel_rfl) ⟨hcell0', hcell1'⟩ (fun hHeld => ?_)
      have HQV := mkHid (HQ.out.later (bdrew (Below.refl wr.heap.size wr)))
      have BXV := mkHid (bon BX.out (bdrew (Below.refl wr.heap.size wr)))
      clear hcell0' hcell1' HQ BX z0
      generalize wr.drew = V at *
      have HWc := mkHid (Below.refl V.heap.size V)
      obtain ⟨bB, hbB⟩ : ∃ bB, bB = V.heap.size := ⟨_, rfl⟩
      have HBB := mkHid hbB
      clear hbB
      refine wpAnyH_take (i := 0) (v := ?_) rfl (by kernel_rfl) (by kernel_rfl) (by kernel_rfl) (fun _ _ _ h => h) (Or.inl ⟨by kernel_rfl, ?_⟩) (by assumption) ?_
      rotate_left
      · (intro w hSw; clear hSw; go_simp; try with_reducible rfl)
      simp only [Act.put, List.getElem_toArray, List.getElem_cons_zero, List.setIfInBounds_toArray, List.set_cons_zero, List.set_cons_succ]
      refine wpAnyH_take (i := 1) (v := ?_) rfl (by kernel_rfl) (by kernel_rfl) (by kernel_rfl) (fun _ _ _ h => h) (Or.inl ⟨by kernel_rfl, ?_⟩) (by assumption) ?_
      rotate_left
      · (intro w hSw; clear hSw; go_simp; try with_reducible rfl)
      simp only [Act.put, List.getElem_toArray, List.getElem_cons_succ, List.getElem_cons_zero, List.setIfInBounds_toArray, List.set_cons_zero, List.set_cons_succ]
      refine wpAnyH_take (i := 2) (v := ?_) rfl (by kernel_rfl) (by kernel_rfl) (by kernel_rfl) (fun _ _ _ h => h) (Or.inl ⟨by kernel_rfl, ?_⟩) (by assumption) ?_
      rotate_left
      · (intro w hSw; clear hSw; go_simp; try with_reducible rfl)
      simp only [Act.put, List.getElem_toArray, List.getElem_cons_succ, List.getElem_cons_zero, List.setIfInBounds_toArray, List.set_cons_zero, List.set_cons_succ]
      refine wpAnyH_take (i := 3) (v := ?_) rfl (by kernel_rfl) (by kernel_rfl) (by kernel_rfl) (fun _ _ _ h => h) (Or.inl ⟨by kernel_rfl, ?_⟩) (by assumption) ?_
      rotate_left
      · (intro w hSw; clear hSw; go_simp; try with_reducible rfl)
      simp only [Act.put, List.getElem_toArray, List.getElem_cons_succ, List.getElem_cons_zero, List.setIfInBounds_toArray, List.set_cons_zero, List.set_cons_succ]
      refine wpAnyH_take (i := 4) (v := ?_) rfl (by kernel_rfl) (by kernel_rfl) (by kernel_rfl) (fun _ _ _ h => h) (Or.inl ⟨by kernel_rfl, ?_⟩) (by assumption) ?_
      rotate_left
      · (intro w hSw; obtain ⟨s0, s1⟩ := hSw; go_simp; try with_reducible rfl)
      simp only [Act.put, List.getElem_toArray, List.getElem_cons_succ, List.getElem_cons_zero, List.setIfInBounds_toArray, List.set_cons_zero, List.set_cons_succ]
      refine wpAnyH_take (i := 6) (v := ?_) rfl (by kernel_rfl) (by kernel_rfl) (by kernel_rfl) (fun _ _ _ h => h) (Or.inl ⟨by kernel_rfl, ?_⟩) (by assumption) ?_
      rotate_left
      · (intro w hSw; clear hSw; go_simp; try with_reducible rfl)
      simp only [Act.put, List.getElem_toArray, List.getElem_cons_succ, List.getElem_cons_zero, List.setIfInBounds_toArray, List.set_cons_zero, List.set_cons_succ]
      refine wpAnyH_take (i := 7) (v := ?_) rfl (by kernel_rfl) (by kernel_rfl) (by kernel_rfl) (fun _ _ _ h => h) (Or.inl ⟨by kernel_rfl, ?_⟩) (by assumption) ?_
      rotate_left
      · (intro w hSw; clear hSw; go_simp; try with_reducible rfl)
      simp only [Act.put, List.getElem_toArray, List.getElem_cons_succ, List.getElem_cons_zero, List.setIfInBounds_toArray, List.set_cons_zero, List.set_cons_succ]
      refine wpAnyH_take (i := 8) (v := ?_) rfl (by kernel_rfl) (by kernel_rfl) (by kernel_rfl) (fun _ _ _ h => h) (Or.inl ⟨by kernel_rfl, ?_⟩) (by assumption) ?_
      rotate_left
      · (intro w hSw; clear hSw; go_simp; try with_reducible rfl)
      simp only [Act.put, List.getElem_toArray, List.getElem_cons_succ, List.getElem_cons_zero, List.setIfInBounds_toArray, List.set_cons_zero, List.set_cons_succ]
      refine wpAnyH_take (i := 9) (v := ?_) rfl (by kernel_rfl) (by kernel_rfl) (by kernel_rfl) (fun _ _ _ h => h) (Or.inl ⟨by kernel_rfl, ?_⟩) (by assumption) ?_
      rotate_left
      · (intro w hSw; obtain ⟨s0, s1⟩ := hSw; go_simp; try with_reducible rfl)
      simp only [Act.put, List.getElem_toArray, List.getElem_cons_succ, List.getElem_cons_zero, List.setIfInBounds_toArray, List.set_cons_zero, List.set_cons_succ]
      refine wpAnyH_take (i := 10) (v := ?_) rfl (by kernel_rfl) (by kernel_rfl) (by kernel_rfl) (fun _ _ _ h => h) (Or.inl ⟨by kernel_rfl, ?_⟩) (by assumption) ?_
      rotate_left
      · (intro w hSw; clear hSw; go_simp; try with_reducible rfl)
      simp only [Act.put, List.getElem_toArray, List.getElem_cons_succ, List.getElem_cons_zero, List.setIfInBounds_toArray, List.set_cons_zero, List.set_cons_succ]
      refine wpAnyH_take (i := 12) (v := ?_) rfl (by kernel_rfl) (by kernel_rfl) (by kernel_rfl) (fun _ _ _ h => h) (Or.inl ⟨by kernel_rfl, ?_⟩) (by assumption) ?_
      rotate_left
      · (intro w hSw; clear hSw; go_simp; try with_reducible rfl)
      simp only [Act.put, List.getElem_toArray, List.getElem_cons_succ, List.getElem_cons_zero, List.setIfInBounds_toArray, List.set_cons_zero, List.set_cons_succ]
      refine wpAnyH_take (i := 13) (v := ?_) rfl (by kernel_rfl) (by kernel_rfl) (by kernel_rfl) (fun _ _ _ h => h) (Or.inl ⟨by kernel_rfl, ?_⟩) (by assumption) ?_
      rotate_left
      · (intro w hSw; clear hSw; go_simp; try with_reducible rfl)
      simp only [Act.put, List.getElem_toArray, List.getElem_cons_succ, List.getElem_cons_zero, List.setIfInBounds_toArray, List.set_cons_zero, List.set_cons_succ]
      refine wpAnyH_take (i := 14) (v := ?_) rfl (by kernel_rfl) (by kernel_rfl) (by kernel_rfl) (fun _ _ _ h => h) (Or.inl ⟨by kernel_rfl, ?_⟩) (by assumption) ?_
      rotate_left
      · (intro w hSw; clear hSw; go_simp; try with_reducible rfl)
      simp only [Act.put, List.getElem_toArray, List.getElem_cons_succ, List.getElem_cons_zero, List.setIfInBounds_toArray, List.set_cons_zero, List.set_cons_succ]
      refine wpAnyH_take (i := 15) (v := ?_) rfl (by kernel_rfl) (by kernel_rfl) (by kernel_rfl) (fun _ _ _ h => h) (Or.inl ⟨by kernel_rfl, ?_⟩) (by assumption) ?_
      rotate_left
      · (intro w hSw; clear hSw; go_simp; try with_reducible rfl)
      simp only [Act.put, List.getElem_toArray, List.getElem_cons_succ, List.getElem_cons_zero, List.setIfInBounds_toArray, List.set_cons_zero, List.set_cons_succ]
      refine wpAnyH_take (i := 16) (v := ?_) rfl (by kernel_rfl) (by kernel_rfl) (by kernel_rfl) (fun _ _ _ h => h) (Or.inl ⟨by kernel_rfl, ?_⟩) (by assumption) ?_
      rotate_left
      · (intro w hSw; obtain ⟨s0, s1⟩ := hSw; go_simp; try with_reducible rfl)
      simp only [Act.put, List.getElem_toArray, List.getElem_cons_succ, List.getElem_cons_zero, List.setIfInBounds_toArray, List.set_cons_zero, List.set_cons_succ]
      refine wpAnyH_take (i := 17) (v := ?_) rfl (by kernel_rfl) (by kernel_rfl) (by kernel_rfl) (fun _ _ _ h => h) (Or.inl ⟨by kernel_rfl, ?_⟩) (by assumption) ?_
      rotate_left
      · (intro w hSw; clear hSw; go_simp; try with_reducible rfl)
      simp only [Act.put, List.getElem_toArray, List.getElem_cons_succ, List.getElem_cons_zero, List.setIfInBounds_toArray, List.set_cons_zero, List.set_cons_succ]
      refine wpAnyH_take (i := 18) (v := ?_) rfl (by kernel_rfl) (by kernel_rfl) (by kernel_rfl) (fun _ _ _ h => h) (Or.inl ⟨by kernel_rfl, ?_⟩) (by assumption) ?_
      rotate_left
      · (intro w hSw; clear hSw; go_simp; try with_reducible rfl)
      simp only [Act.put, List.getElem_toArray, List.getElem_cons_succ, List.getElem_cons_zero, List.setIfInBounds_toArray, List.set_cons_zero, List.set_cons_succ]
      refine wpAnyH_take (i := 19) (v := ?_) rfl (by kernel_rfl) (by kernel_rfl) (by kernel_rfl) (fun _ _ _ h => h) (Or.inl ⟨by kernel_rfl, ?_⟩) (by assumption) ?_
      rotate_left
      · (intro w hSw; clear hSw; go_simp; try with_reducible rfl)
      simp only [Act.put, List.getElem_toArray, List.getElem_cons_succ, List.getElem_cons_zero, List.setIfInBounds_toArray, List.set_cons_zero, List.set_cons_succ]
      refine wpAnyH_take (i := 20) (v := ?_) rfl (by kernel_rfl) (by kernel_rfl) (by kernel_rfl) (fun _ _ _ h => h) (Or.inl ⟨by kernel_rfl, ?_⟩) (by assumption) ?_
      rotate_left
      · (intro w hSw; obtain ⟨s0, s1⟩ := hSw; go_simp; try with_reducible rfl)
      simp only [Act.put, List.getElem_toArray, List.getElem_cons_succ, List.getElem_cons_zero, List.setIfInBounds_toArray, List.set_cons_zero, List.set_cons_succ]
      refine wpAnyH_ready (rs := [5, 11, 21]) (by kernel_rfl) (by simp) ?_
      refine AllReadyH.cons rfl (fun K hK => ?_) ?_
      · have b0 := bel_alloc V (.cells #[.int .i64 h, .int .i64 l0] 3)
        have O5 := mkHid (own_base (b' := bB) (own_lit (w := V) [h, l0] 2 #[.int .i64 h, .int .i64 l0] rfl (by omega) rfl) (by rw [HBB.out]; exact HWc.out.size))
        obtain ⟨g5, hg5⟩ : ∃ g5, V.heap.size = g5 := ⟨_, rfl⟩
        rw [hg5] at O5
        replace HWc := mkHid (bon HWc.out b0)
        go_simp
        (try rw [hg5])
        refine hK.out _ _ (HCELL.out _ _ _ _ (HQV.out.later HWc.out)) (fun hHeld => ?_)
        clear hK b0 hg5
        generalize V.alloc (.cells #[.int .i64 h, .int .i64 l0] 3) = W5 at *
        refine wpAnyH_ready (rs := [11, 21]) (by kernel_rfl) (by simp) ?_
        refine AllReadyH.cons rfl (fun K hK => ?_) ?_
        · have b0 := bel_alloc W5 (.cells #[.int .i64 h, .int .i64 (-l1)] 3)
          have O11 := mkHid (own_base (b' := bB) (own_lit (w := W5) [h, -l1] 2 #[.int .i64 h, .int .i64 (-l1)] rfl (by omega) rfl) (by rw [HBB.out]; exact HWc.out.size))
          obtain ⟨g11, hg11⟩ : ∃ g11, W5.heap.size = g11 := ⟨_, rfl⟩
          rw [hg11] at O11
          replace O5 := mkHid (own_lat' O5.out b0)
          replace HWc := mkHid (bon HWc.out b0)
          go_simp
          (try rw [hg11])
          refine hK.out _ _ (HCELL.out _ _ _ _ (HQV.out.later HWc.out)) (fun hHeld => ?_)
          clear hK b0 hg11
          generalize W5.alloc (.cells #[.int .i64 h, .int .i64 (-l1)] 3) = W11 at *
          refine wpAnyH_ready (rs := [21]) (by kernel_rfl) (by simp) ?_
          refine AllReadyH.cons rfl (fun K hK => ?_) AllReadyH.nil
          have b0 := bel_alloc W11 (.cells #[.int .i64 (-h), .int .i64 (-l0), .int .i64 l1] 3)
          have O21 := mkHid (own_base (b' := bB) (own_lit (w := W11) [-h, -l0, l1] 3 #[.int .i64 (-h), .int .i64 (-l0), .int .i64 l1] rfl (by omega) rfl) (by rw [HBB.out]; exact HWc.out.size))
          obtain ⟨g21, hg21⟩ : ∃ g21, W11.heap.size = g21 := ⟨_, rfl⟩
          rw [hg21] at O21
          replace O5 := mkHid (own_lat' O5.out b0)
          replace O11 := mkHid (own_lat' O11.out b0)
          replace HWc := mkHid (bon HWc.out b0)
          go_simp
          (try rw [hg21])
          refine hK.out _ _ (HCELL.out _ _ _ _ (HQV.out.later HWc.out)) (fun hHeld => ?_)
          clear hK b0 hg21
          generalize W11.alloc (.cells #[.int .i64 (-h), .int .i64 (-l0), .int .i64 l1] 3) = W21 at *
          refine wpAnyH_ready (rs := [22]) (by kernel_rfl) (by simp) ?_
          refine AllReadyH.cons rfl (fun K hK => ?_) AllReadyH.nil
          have b0 := bel_alloc W21 (.cells #[.slice (some ⟨g5, 0, none⟩) 2 2, .slice (some ⟨g11, 0, none⟩) 2 2, .slice (some ⟨g21, 0, none⟩) 3 3] 54)
          have O22 := mkHid (three_rows O5.out O11.out O21.out (by rw [HBB.out]; exact HWc.out.size))
          obtain ⟨g22, hg22⟩ : ∃ g22, W21.heap.size = g22 := ⟨_, rfl⟩
          rw [hg22] at O22
          replace HWc := mkHid (bon HWc.out b0)
          go_simp
          (try rw [hg22])
          refine hK.out _ _ (HCELL.out _ _ _ _ (HQV.out.later HWc.out)) (fun hHeld => ?_)
          clear hK b0 hg22 O5 O11 O21
          generalize W21.alloc (.cells #[.slice (some ⟨g5, 0, none⟩) 2 2, .slice (some ⟨g11, 0, none⟩) 2 2, .slice (some ⟨g21, 0, none⟩) 3 3] 54) = W22 at *
          refine wpAnyH_ready (rs := [23]) (by kernel_rfl) (by simp) ?_
          refine AllReadyH.cons rfl (fun K hK => ?_) AllReadyH.nil
          obtain ⟨v9, W23, hrun, hq9, hb9⟩ := CQ.more (HQV.out.later HWc.out) O22.out (by rw [HBB.out]; exact BXV.out.size) (by rw [HBB.out]; exact HQV.out.lt) hcl3 (bon BXV.out HWc.out).size
          have HQ9 := mkHid hq9
          have BX9 := mkHid ((bon BXV.out HWc.out).trans hb9)
          clear hq9 hb9
          refine step_run (by rfl) _ _ (by rfl) (by rfl) (by rfl) (by rfl) hrun ?_
          refine hK.out _ _ (HCELL.out _ _ _ _ HQ9.out) (fun hHeld => ?_)
          clear hK hrun
          refine wpAnyH_take (i := 24) (v := ?_) rfl (by kernel_rfl) (by kernel_rfl) (by kernel_rfl) (fun _ _ _ h => h) (Or.inl ⟨by kernel_rfl, ?_⟩) (by assumption) ?_
          rotate_left
          · (intro w hSw; clear hSw; go_simp; try with_reducible rfl)
          simp only [Act.put, List.getElem_toArray, List.getElem_cons_succ, List.getElem_cons_zero, List.setIfInBounds_toArray, List.set_cons_zero, List.set_cons_succ]
          refine wpAnyH_done (by kernel_rfl) ?_ _
          go_wp2
          go_ret
          exact ⟨_, _, rfl, HB1.out.trans (BX9.out.mono HB1.out.size), by rw [HEQ.out]; exact (HQ9.out).rows.base_le HB1.out.size⟩
        refine AllReadyH.cons rfl (fun K hK => ?_) AllReadyH.nil
        have b0 := bel_alloc W5 (.cells #[.int .i64 (-h), .int .i64 (-l0), .int .i64 l1] 3)
        have O21 := mkHid (own_base (b' := bB) (own_lit (w := W5) [-h, -l0, l1] 3 #[.int .i64 (-h), .int .i64 (-l0), .int .i64 l1] rfl (by omega) rfl) (by rw [HBB.out]; exact HWc.out.size))
        obtain ⟨g21, hg21⟩ : ∃ g21, W5.heap.size = g21 := ⟨_, rfl⟩
        rw [hg21] at O21
        replace O5 := mkHid (own_lat' O5.out b0)
        replace HWc := mkHid (bon HWc.out b0)
        go_simp
        (try rw [hg21])
        refine hK.out _ _ (HCELL.out _ _ _ _ (HQV.out.later HWc.out)) (fun hHeld => ?_)
        clear hK b0 hg21
        generalize W5.alloc (.cells #[.int .i64 (-h), .int .i64 (-l0), .int .i64 l1] 3) = W21 at *
        refine wpAnyH_ready (rs := [11]) (by kernel_rfl) (by simp) ?_
        refine AllReadyH.cons rfl (fun K hK => ?_) AllReadyH.nil
        have b0 := bel_alloc W21 (.cells #[.int .i64 h, .int .i64 (-l1)] 3)
        have O11 := mkHid (own_base (b' := bB) (own_lit (w := W21) [h, -l1] 2 #[.int .i64 h, .int .i64 (-l1)] rfl (by omega) rfl) (by rw [HBB.out]; exact HWc.out.size))
        obtain ⟨g11, hg11⟩ : ∃ g11, W21.heap.size = g11 := ⟨_, rfl⟩
        rw [hg11] at O11
        replace O5 := mkHid (own_lat' O5.out b0)
        replace O21 := mkHid (own_lat' O21.out b0)
        replace HWc := mkHid (bon HWc.out b0)
        go_simp
        (try rw [hg11])
        refine hK.out _ _ (HCELL.out _ _ _ _ (HQV.out.later HWc.out)) (fun hHeld => ?_)
        clear hK b0 hg11
        generalize W21.alloc (.cells #[.int .i64 h, .int .i64 (-l1)] 3) = W11 at *
        refine wpAnyH_ready (rs := [22]) (by kernel_rfl) (by simp) ?_
        refine AllReadyH.cons rfl (fun K hK => ?_) AllReadyH.nil
        have b0 := bel_alloc W11 (.cells #[.slice (some ⟨g5, 0, none⟩) 2 2, .slice (some ⟨g11, 0, none⟩) 2 2, .slice (some ⟨g21, 0, none⟩) 3 3] 54)
        have O22 := mkHid (three_rows O5.out O11.out O21.out (by rw [HBB.out]; exact HWc.out.size))
        obtain ⟨g22, hg22⟩ : ∃ g22, W11.heap.size = g22 := ⟨_, rfl⟩
        rw [hg22] at O22
        replace HWc := mkHid (bon HWc.out b0)
        go_simp
        (try rw [hg22])
        refine hK.out _ _ (HCELL.out _ _ _ _ (HQV.out.later HWc.out)) (fun hHeld => ?_)
        clear hK b0 hg22 O5 O11 O21
        generalize W11.alloc (.cells #[.slice (some ⟨g5, 0, none⟩) 2 2, .slice (some ⟨g11, 0, none⟩) 2 2, .slice (some ⟨g21, 0, none⟩) 3 3] 54) = W22 at *
        refine wpAnyH_ready (rs := [23]) (by kernel_rfl) (by simp) ?_
        refine AllReadyH.cons rfl (fun K hK => ?_) AllReadyH.nil
        obtain ⟨v9, W23, hrun, hq9, hb9⟩ := CQ.more (HQV.out.later HWc.out) O22.out (by rw [HBB.out]; exact BXV.out.size) (by rw [HBB.out]; exact HQV.out.lt) hcl3 (bon BXV.out HWc.out).size
        have HQ9 := mkHid hq9
        have BX9 := mkHid ((bon BXV.out HWc.out).trans hb9)
        clear hq9 hb9
        refine step_run (by rfl) _ _ (by rfl) (by rfl) (by rfl) (by rfl) hrun ?_
        refine hK.out _ _ (HCELL.out _ _ _ _ HQ9.out) (fun hHeld => ?_)
        clear hK hrun
        refine wpAnyH_take (i := 24) (v := ?_) rfl (by kernel_rfl) (by kernel_rfl) (by kernel_rfl) (fun _ _ _ h => h) (Or.inl ⟨by kernel_rfl, ?_⟩) (by assumption) ?_
        rotate_left
        · (intro w hSw; clear hSw; go_simp; try with_reducible rfl)
        simp only [Act.put, List.getElem_toArray, List.getElem_cons_succ, List.getElem_cons_zero, List.setIfInBounds_toArray, List.set_cons_zero, List.set_cons_succ]
        refine wpAnyH_done (by kernel_rfl) ?_ _
        go_wp2
        go_ret
        exact ⟨_, _, rfl, HB1.out.trans (BX9.out.mono HB1.out.size), by rw [HEQ.out]; exact (HQ9.out).rows.base_le HB1.out.size⟩
      refine AllReadyH.cons rfl (fun K hK => ?_) ?_
      · have b0 := bel_alloc V (.cells #[.int .i64 h, .int .i64 (-l1)] 3)
        have O11 := mkHid (own_base (b' := bB) (own_lit (w := V) [h, -l1] 2 #[.int .i64 h, .int .i64 (-l1)] rfl (by omega) rfl) (by rw [HBB.out]; exact HWc.out.size))
        obtain ⟨g11, hg11⟩ : ∃ g11, V.heap.size = g11 := ⟨_, rfl⟩
        rw [hg11] at O11
        replace HWc := mkHid (bon HWc.out b0)
        go_simp
        (try rw [hg11])
        refine hK.out _ _ (HCELL.out _ _ _ _ (HQV.out.later HWc.out)) (fun hHeld => ?_)
        clear hK b0 hg11
        generalize V.alloc (.cells #[.int .i64 h, .int .i64 (-l1)] 3) = W11 at *
        refine wpAnyH_ready (rs := [5, 21]) (by kernel_rfl) (by simp) ?_
        refine AllReadyH.cons rfl (fun K hK => ?_) ?_
        · have b0 := bel_alloc W11 (.cells #[.int .i64 h, .int .i64 l0] 3)
          have O5 := mkHid (own_base (b' := bB) (own_lit (w := W11) [h, l0] 2 #[.int .i64 h, .int .i64 l0] rfl (by omega) rfl) (by rw [HBB.out]; exact HWc.out.size))
          obtain ⟨g5, hg5⟩ : ∃ g5, W11.heap.size = g5 := ⟨_, rfl⟩
          rw [hg5] at O5
          replace O11 := mkHid (own_lat' O11.out b0)
          replace HWc := mkHid (bon HWc.out b0)
          go_simp
          (try rw [hg5])
          refine hK.out _ _ (HCELL.out _ _ _ _ (HQV.out.later HWc.out)) (fun hHeld => ?_)
          clear hK b0 hg5
          generalize W11.alloc (.cells #[.int .i64 h, .int .i64 l0] 3) = W5 at *
          refine wpAnyH_ready (rs := [21]) (by kernel_rfl) (by simp) ?_
          refine AllReadyH.cons rfl (fun K hK => ?_) AllReadyH.nil
          have b0 := bel_alloc W5 (.cells #[.int .i64 (-h), .int .i64 (-l0), .int .i64 l1] 3)
          have O21 := mkHid (own_base (b' := bB) (own_lit (w := W5) [-h, -l0, l1] 3 #[.int .i64 (-h), .int .i64 (-l0), .int .i64 l1] rfl (by omega) rfl) (by rw [HBB.out]; exact HWc.out.size))
          obtain ⟨g21, hg21⟩ : ∃ g21, W5.heap.size = g21 := ⟨_, rfl⟩
          rw [hg21] at O21
          replace O11 := mkHid (own_lat' O11.out b0)
          replace O5 := mkHid (own_lat' O5.out b0)
          replace HWc := mkHid (bon HWc.out b0)
          go_simp
          (try rw [hg21])
          refine hK.out _ _ (HCELL.out _ _ _ _ (HQV.out.later HWc.out)) (fun hHeld => ?_)
          clear hK b0 hg21
          generalize W5.alloc (.cells #[.int .i64 (-h), .int .i64 (-l0), .int .i64 l1] 3) = W21 at *
          refine wpAnyH_ready (rs := [22]) (by kernel_rfl) (by simp) ?_
          refine AllReadyH.cons rfl (fun K hK => ?_) AllReadyH.nil
          have b0 := bel_alloc W21 (.cells #[.slice (some ⟨g5, 0, none⟩) 2 2, .slice (some ⟨g11, 0, none⟩) 2 2, .slice (some ⟨g21, 0, none⟩) 3 3] 54)
          have O22 := mkHid (three_rows O5.out O11.out O21.out (by rw [HBB.out]; exact HWc.out.size))
          obtain ⟨g22, hg22⟩ : ∃ g22, W21.heap.size = g22 := ⟨_, rfl⟩
          rw [hg22] at O22
          replace HWc := mkHid (bon HWc.out b0)
          go_simp
          (try rw [hg22])
          refine hK.out _ _ (HCELL.out _ _ _ _ (HQV.out.later HWc.out)) (fun hHeld => ?_)
          clear hK b0 hg22 O5 O11 O21
          generalize W21.alloc (.cells #[.slice (some ⟨g5, 0, none⟩) 2 2, .slice (some ⟨g11, 0, none⟩) 2 2, .slice (some ⟨g21, 0, none⟩) 3 3] 54) = W22 at *
          refine wpAnyH_ready (rs := [23]) (by kernel_rfl) (by simp) ?_
          refine AllReadyH.cons rfl (fun K hK => ?_) AllReadyH.nil
          obtain ⟨v9, W23, hrun, hq9, hb9⟩ := CQ.more (HQV.out.later HWc.out) O22.out (by rw [HBB.out]; exact BXV.out.size) (by rw [HBB.out]; exact HQV.out.lt) hcl3 (bon BXV.out HWc.out).size
          have HQ9 := mkHid hq9
          have BX9 := mkHid ((bon BXV.out HWc.out).trans hb9)
          clear hq9 hb9
          refine step_run (by rfl) _ _ (by rfl) (by rfl) (by rfl) (by rfl) hrun ?_
          refine hK.out _ _ (HCELL.out _ _ _ _ HQ9.out) (fun hHeld => ?_)
          clear hK hrun
          refine wpAnyH_take (i := 24) (v := ?_) rfl (by kernel_rfl) (by kernel_rfl) (by kernel_rfl) (fun _ _ _ h => h) (Or.inl ⟨by kernel_rfl, ?_⟩) (by assumption) ?_
          rotate_left
          · (intro w hSw; clear hSw; go_simp; try with_reducible rfl)
          simp only [Act.put, List.getElem_toArray, List.getElem_cons_succ, List.getElem_cons_zero, List.setIfInBounds_toArray, List.set_cons_zero, List.set_cons_succ]
          refine wpAnyH_done (by kernel_rfl) ?_ _
          go_wp2
          go_ret
          exact ⟨_, _, rfl, HB1.out.trans (BX9.out.mono HB1.out.size), by rw [HEQ.out]; exact (HQ9.out).rows.base_le HB1.out.size⟩
        refine AllReadyH.cons rfl (fun K hK => ?_) AllReadyH.nil
        have b0 := bel_alloc W11 (.cells #[.int .i64 (-h), .int .i64 (-l0), .int .i64 l1] 3)
        have O21 := mkHid (own_base (b' := bB) (own_lit (w := W11) [-h, -l0, l1] 3 #[.int .i64 (-h), .int .i64 (-l0), .int .i64 l1] rfl (by omega) rfl) (by rw [HBB.out]; exact HWc.out.size))
        obtain ⟨g21, hg21⟩ : ∃ g21, W11.heap.size = g21 := ⟨_, rfl⟩
        rw [hg21] at O21
        replace O11 := mkHid (own_lat' O11.out b0)
        replace HWc := mkHid (bon HWc.out b0)
        go_simp
        (try rw [hg21])
        refine hK.out _ _ (HCELL.out _ _ _ _ (HQV.out.later HWc.out)) (fun hHeld => ?_)
        clear hK b0 hg21
        generalize W11.alloc (.cells #[.int .i64 (-h), .int .i64 (-l0), .int .i64 l1] 3) = W21 at *
        refine wpAnyH_ready (rs := [5]) (by kernel_rfl) (by simp) ?_
        refine AllReadyH.cons rfl (fun K hK => ?_) AllReadyH.nil
        have b0 := bel_alloc W21 (.cells #[.int .i64 h, .int .i64 l0] 3)
        have O5 := mkHid (own_base (b' := bB) (own_lit (w := W21) [h, l0] 2 #[.int .i64 h, .int .i64 l0] rfl (by omega) rfl) (by rw [HBB.out]; exact HWc.out.size))
        obtain ⟨g5, hg5⟩ : ∃ g5, W21.heap.size = g5 := ⟨_, rfl⟩
        rw [hg5] at O5
        replace O11 := mkHid (own_lat' O11.out b0)
        replace O21 := mkHid (own_lat' O21.out b0)
        replace HWc := mkHid (bon HWc.out b0)
        go_simp
        (try rw [hg5])
        refine hK.out _ _ (HCELL.out _ _ _ _ (HQV.out.later HWc.out)) (fun hHeld => ?_)
        clear hK b0 hg5
        generalize W21.alloc (.cells #[.int .i64 h, .int .i64 l0] 3) = W5 at *
        refine wpAnyH_ready (rs := [22]) (by kernel_rfl) (by simp) ?_
        refine AllReadyH.cons rfl (fun K hK => ?_) AllReadyH.nil
        have b0 := bel_alloc W5 (.cells #[.slice (some ⟨g5, 0, none⟩) 2 2, .slice (some ⟨g11, 0, none⟩) 2 2, .slice (some ⟨g21, 0, none⟩) 3 3] 54)
        have O22 := mkHid (three_rows O5.out O11.out O21.out (by rw [HBB.out]; exact HWc.out.size))
        obtain ⟨g22, hg22⟩ : ∃ g22, W5.heap.size = g22 := ⟨_, rfl⟩
        rw [hg22] at O22
        replace HWc := mkHid (bon HWc.out b0)
        go_simp
        (try rw [hg22])
        refine hK.out _ _ (HCELL.out _ _ _ _ (HQV.out.later HWc.out)) (fun hHeld => ?_)
        clear hK b0 hg22 O5 O11 O21
        generalize W5.alloc (.cells #[.slice (some ⟨g5, 0, none⟩) 2 2, .slice (some ⟨g11, 0, none⟩) 2 2, .slice (some ⟨g21, 0, none⟩) 3 3] 54) = W22 at *
        refine wpAnyH_ready (rs := [23]) (by kernel_rfl) (by simp) ?_
        refine AllReadyH.cons rfl (fun K hK => ?_) AllReadyH.nil
        obtain ⟨v9, W23, hrun, hq9, hb9⟩ := CQ.more (HQV.out.later HWc.out) O22.out (by rw [HBB.out]; exact BXV.out.size) (by rw [HBB.out]; exact HQV.out.lt) hcl3 (bon BXV.out HWc.out).size
        have HQ9 := mkHid hq9
        have BX9 := mkHid ((bon BXV.out HWc.out).trans hb9)
        clear hq9 hb9
        refine step_run (by rfl) _ _ (by rfl) (by rfl) (by rfl) (by rfl) hrun ?_
        refine hK.out _ _ (HCELL.out _ _ _ _ HQ9.out) (fun hHeld => ?_)
        clear hK hrun
        refine wpAnyH_take (i := 24) (v := ?_) rfl (by kernel_rfl) (by kernel_rfl) (by kernel_rfl) (fun _ _ _ h => h) (Or.inl ⟨by kernel_rfl, ?_⟩) (by assumption) ?_
        rotate_left
        · (intro w hSw; clear hSw; go_simp; try with_reducible rfl)
        simp only [Act.put, List.getElem_toArray, List.getElem_cons_succ, List.getElem_cons_zero, List.setIfInBounds_toArray, List.set_cons_zero, List.set_cons_succ]
        refine wpAnyH_done (by kernel_rfl) ?_ _
        go_wp2
        go_ret
        exact ⟨_, _, rfl, HB1.out.trans (BX9.out.mono HB1.out.size), by rw [HEQ.out]; exact (HQ9.out).rows.base_le HB1.out.size⟩
      refine AllReadyH.cons rfl (fun K hK => ?_) AllReadyH.nil
      have b0 := bel_alloc V (.cells #[.int .i64 (-h), .int .i64 (-l0), .int .i64 l1] 3)
      have O21 := mkHid (own_base (b' := bB) (own_lit (w := V) [-h, -l0, l1] 3 #[.int .i64 (-h), .int .i64 (-l0), .int .i64 l1] rfl (by omega) rfl) (by rw [HBB.out]; exact HWc.out.size))
      obtain ⟨g21, hg21⟩ : ∃ g21, V.heap.size = g21 := ⟨_, rfl⟩
      rw [hg21] at O21
      replace HWc := mkHid (bon HWc.out b0)
      go_simp
      (try rw [hg21])
      refine hK.out _ _ (HCELL.out _ _ _ _ (HQV.out.later HWc.out)) (fun hHeld => ?_)
      clear hK b0 hg21
      generalize V.alloc (.cells #[.int .i64 (-h), .int .i64 (-l0), .int .i64 l1] 3) = W21 at *
      refine wpAnyH_ready (rs := [5, 11]) (by kernel_rfl) (by simp) ?_
      refine AllReadyH.cons rfl (fun K hK => ?_) ?_
      · have b0 := bel_alloc W21 (.cells #[.int .i64 h, .int .i64 l0] 3)
        have O5 := mkHid (own_base (b' := bB) (own_lit (w := W21) [h, l0] 2 #[.int .i64 h, .int .i64 l0] rfl (by omega) rfl) (by rw [HBB.out]; exact HWc.out.size))
        obtain ⟨g5, hg5⟩ : ∃ g5, W21.heap.size = g5 := ⟨_, rfl⟩
        rw [hg5] at O5
        replace O21 := mkHid (own_lat' O21.out b0)
        replace HWc := mkHid (bon HWc.out b0)
        go_simp
        (try rw [hg5])
        refine hK.out _ _ (HCELL.out _ _ _ _ (HQV.out.later HWc.out)) (fun hHeld => ?_)
        clear hK b0 hg5
        generalize W21.alloc (.cells #[.int .i64 h, .int .i64 l0] 3) = W5 at *
        refine wpAnyH_ready (rs := [11]) (by kernel_rfl) (by simp) ?_
        refine AllReadyH.cons rfl (fun K hK => ?_) AllReadyH.nil
        have b0 := bel_alloc W5 (.cells #[.int .i64 h, .int .i64 (-l1)] 3)
        have O11 := mkHid (own_base (b' := bB) (own_lit (w := W5) [h, -l1] 2 #[.int .i64 h, .int .i64 (-l1)] rfl (by omega) rfl) (by rw [HBB.out]; exact HWc.out.size))
        obtain ⟨g11, hg11⟩ : ∃ g11, W5.heap.size = g11 := ⟨_, rfl⟩
        rw [hg11] at O11
        replace O21 := mkHid (own_lat' O21.out b0)
        replace O5 := mkHid (own_lat' O5.out b0)
        replace HWc := mkHid (bon HWc.out b0)
        go_simp
        (try rw [hg11])
        refine hK.out _ _ (HCELL.out _ _ _ _ (HQV.out.later HWc.out)) (fun hHeld => ?_)
        clear hK b0 hg11
        generalize W5.alloc (.cells #[.int .i64 h, .int .i64 (-l1)] 3) = W11 at *
        refine wpAnyH_ready (rs := [22]) (by kernel_rfl) (by simp) ?_
        refine AllReadyH.cons rfl (fun K hK => ?_) AllReadyH.nil
        have b0 := bel_alloc W11 (.cells #[.slice (some ⟨g5, 0, none⟩) 2 2, .slice (some ⟨g11, 0, none⟩) 2 2, .slice (some ⟨g21, 0, none⟩) 3 3] 54)
        have O22 := mkHid (three_rows O5.out O11.out O21.out (by rw [HBB.out]; exact HWc.out.size))
        obtain ⟨g22, hg22⟩ : ∃ g22, W11.heap.size = g22 := ⟨_, rfl⟩
        rw [hg22] at O22
        replace HWc := mkHid (bon HWc.out b0)
        go_simp
        (try rw [hg22])
        refine hK.out _ _ (HCELL.out _ _ _ _ (HQV.out.later HWc.out)) (fun hHeld => ?_)
        clear hK b0 hg22 O5 O11 O21
        generalize W11.alloc (.cells #[.slice (some ⟨g5, 0, none⟩) 2 2, .slice (some ⟨g11, 0, none⟩) 2 2, .slice (some ⟨g21, 0, none⟩) 3 3] 54) = W22 at *
        refine wpAnyH_ready (rs := [23]) (by kernel_rfl) (by simp) ?_
        refine AllReadyH.cons rfl (fun K hK => ?_) AllReadyH.nil
        obtain ⟨v9, W23, hrun, hq9, hb9⟩ := CQ.more (HQV.out.later HWc.out) O22.out (by rw [HBB.out]; exact BXV.out.size) (by rw [HBB.out]; exact HQV.out.lt) hcl3 (bon BXV.out HWc.out).size
        have HQ9 := mkHid hq9
        have BX9 := mkHid ((bon BXV.out HWc.out).trans hb9)
        clear hq9 hb9
        refine step_run (by rfl) _ _ (by rfl) (by rfl) (by rfl) (by rfl) hrun ?_
        refine hK.out _ _ (HCELL.out _ _ _ _ HQ9.out) (fun hHeld => ?_)
        clear hK hrun
        refine wpAnyH_take (i := 24) (v := ?_) rfl (by kernel_rfl) (by kernel_rfl) (by kernel_rfl) (fun _ _ _ h => h) (Or.inl ⟨by kernel_rfl, ?_⟩) (by assumption) ?_
        rotate_left
        · (intro w hSw; clear hSw; go_simp; try with_reducible rfl)
        simp only [Act.put, List.getElem_toArray, List.getElem_cons_succ, List.getElem_cons_zero, List.setIfInBounds_toArray, List.set_cons_zero, List.set_cons_succ]
        refine wpAnyH_done (by kernel_rfl) ?_ _
        go_wp2
        go_ret
        exact ⟨_, _, rfl, HB1.out.trans (BX9.out.mono HB1.out.size), by rw [HEQ.out]; exact (HQ9.out).rows.base_le HB1.out.size⟩
      refine AllReadyH.cons rfl (fun K hK => ?_) AllReadyH.nil
      have b0 := bel_alloc W21 (.cells #[.int .i64 h, .int .i64 (-l1)] 3)
      have O11 := mkHid (own_base (b' := bB) (own_lit (w := W21) [h, -l1] 2 #[.int .i64 h, .int .i64 (-l1)] rfl (by omega) rfl) (by rw [HBB.out]; exact HWc.out.size))
      obtain ⟨g11, hg11⟩ : ∃ g11, W21.heap.size = g11 := ⟨_, rfl⟩
      rw [hg11] at O11
      replace O21 := mkHid (own_lat' O21.out b0)
      replace HWc := mkHid (bon HWc.out b0)
      go_simp
      (try rw [hg11])
      refine hK.out _ _ (HCELL.out _ _ _ _ (HQV.out.later HWc.out)) (fun hHeld => ?_)
      clear hK b0 hg11
      generalize W21.alloc (.cells #[.int .i64 h, .int .i64 (-l1)] 3) = W11 at *
      refine wpAnyH_ready (rs := [5]) (by kernel_rfl) (by simp) ?_
      refine AllReadyH.cons rfl (fun K hK => ?_) AllReadyH.nil
      have b0 := bel_alloc W11 (.cells #[.int .i64 h, .int .i64 l0] 3)
      have O5 := mkHid (own_base (b' := bB) (own_lit (w := W11) [h, l0] 2 #[.int .i64 h, .int .i64 l0] rfl (by omega) rfl) (by rw [HBB.out]; exact HWc.out.size))
      obtain ⟨g5, hg5⟩ : ∃ g5, W11.heap.size = g5 := ⟨_, rfl⟩
      rw [hg5] at O5
      replace O21 := mkHid (own_lat' O21.out b0)
      replace O11 := mkHid (own_lat' O11.out b0)
      replace HWc := mkHid (bon HWc.out b0)
      go_simp
      (try rw [hg5])
      refine hK.out _ _ (HCELL.out _ _ _ _ (HQV.out.later HWc.out)) (fun hHeld => ?_)
      clear hK b0 hg5
      generalize W11.alloc (.cells #[.int .i64 h, .int .i64 l0] 3) = W5 at *
      refine wpAnyH_ready (rs := [22]) (by kernel_rfl) (by simp) ?_
      refine AllReadyH.cons rfl (fun K hK => ?_) AllReadyH.nil
      have b0 := bel_alloc W5 (.cells #[.slice (some ⟨g5, 0, none⟩) 2 2, .slice (some ⟨g11, 0, none⟩) 2 2, .slice (some ⟨g21, 0, none⟩) 3 3] 54)
      have O22 := mkHid (three_rows O5.out O11.out O21.out (by rw [HBB.out]; exact HWc.out.size))
      obtain ⟨g22, hg22⟩ : ∃ g22, W5.heap.size = g22 := ⟨_, rfl⟩
      rw [hg22] at O22
      replace HWc := mkHid (bon HWc.out b0)
      go_simp
      (try rw [hg22])
      refine hK.out _ _ (HCELL.out _ _ _ _ (HQV.out.later HWc.out)) (fun hHeld => ?_)
      clear hK b0 hg22 O5 O11 O21
      generalize W5.alloc (.cells #[.slice (some ⟨g5, 0, none⟩) 2 2, .slice (some ⟨g11, 0, none⟩) 2 2, .slice (some ⟨g21, 0, none⟩) 3 3] 54) = W22 at *
      refine wpAnyH_ready (rs := [23]) (by kernel_rfl) (by simp) ?_
      refine AllReadyH.cons rfl (fun K hK => ?_) AllReadyH.nil
      obtain ⟨v9, W23, hrun, hq9, hb9⟩ := CQ.more (HQV.out.later HWc.out) O22.out (by rw [HBB.out]; exact BXV.out.size) (by rw [HBB.out]; exact HQV.out.lt) hcl3 (bon BXV.out HWc.out).size
      have HQ9 := mkHid hq9
      have BX9 := mkHid ((bon BXV.out HWc.out).trans hb9)
      clear hq9 hb9
      refine step_run (by rfl) _ _ (by rfl) (by rfl) (by rfl) (by rfl) hrun ?_
      refine hK.out _ _ (HCELL.out _ _ _ _ HQ9.out) (fun hHeld => ?_)
      clear hK hrun
      refine wpAnyH_take (i := 24) (v := ?_) rfl (by kernel_rfl) (by kernel_rfl) (by kernel_rfl) (fun _ _ _ h => h) (Or.inl ⟨by kernel_rfl, ?_⟩) (by assumption) ?_
      rotate_left
      · (intro w hSw; clear hSw; go_simp; try with_reducible rfl)
      simp only [Act.put, List.getElem_toArray, List.getElem_cons_succ, List.getElem_cons_zero, List.setIfInBounds_toArray, List.set_cons_zero, List.set_cons_succ]
      refine wpAnyH_done (by kernel_rfl) ?_ _
      go_wp2
      go_ret
      exact ⟨_, _, rfl, HB1.out.trans (BX9.out.mono HB1.out.size), by rw [HEQ.out]; exact (HQ9.out).rows.base_le HB1.out.size⟩
end Go.Proofs.YtaiachmolkjedaaDoor
