/-
  The document's clauses: Or.
-/
import Derived.Test.YtaiachmolkjedaaDoorCnRb
namespace Go.Proofs.YtaiachmolkjedaaDoor
open Go.RowKit

set_option maxRecDepth 100000 in
set_option maxHeartbeats 16000000 in
theorem rcls_20 (L : List Tm) (va : Value) (t : Tm) (m : Nat) (w : World) (hin : CIn L va t m w) (ho : t.op = 20) (h4 : ∀ k ∈ t.ks, k.srt = 4)
    (ih : ∀ (k : Nat) (hk : k < t.ks.length) (w' : World), CIn L va t.ks[k] (m + hlps (t.ks.take k)) w' → Calls Tryd.prog 68 #[va, t.ks[k].val, .int .i64 ((m + hlps (t.ks.take k) : Nat) : Int)] w' (ClsP L t.ks[k] (m + hlps (t.ks.take k)) w')) :
    Calls Tryd.prog 68 #[va, t.val, .int .i64 (m : Int)] w (ClsP L t m w) := by
  have hj : jnB t.op = true := by rw [ho]; rfl
  have B0 := bel_alloc w (boxT t)
  have F1 := box_four w t
  have hW : w.alloc (.cells #[.int .i64 t.op, .string t.nm, .int .i64 t.n, .slice t.a t.ks.length t.c] 24) = w.alloc (boxT t) := rfl
  have CJ := mkHid (rjoins_any t.op (w.alloc (boxT t)))
  rw [hj] at CJ
  have hse := Tm.size_eq t
  have hh1 := hlps_sizes t.ks
  have hmost := hin.most
  have hsz := hin.size
  obtain ⟨h, hh⟩ : ∃ h : Int, ((m + hlps t.ks : Nat) : Int) + 1 = h := ⟨_, rfl⟩
  have hhl : 1 ≤ h ∧ h ≤ 10000 := by omega
  have HIN := mkHid hin
  have IH := mkHid ih
  have H4 := mkHid h4
  have HJ := mkHid hj
  have hkl : t.ks.length ≤ 2000 := by
    have := len_sizes t.ks
    omega
  have HCL : Hid (∀ k, (clss L (t.ks.take k) m).length ≤ 40000) := fun k => by
    have h1 := jcls_take t.ks k
    have h2 := jcl_le t
    have h3 : jcls t.ks ≤ jcl t := by rw [← clss_len L t.ks 0, ← cls_len L t 0, cls_eq, if_pos hj, List.length_append]; omega
    rw [clss_len]
    omega
  have HLB : Hid (∀ x ∈ lits L t.ks m, x.natAbs ≤ 10000) := fun x hx => by
    have hc := hin.cov
    rw [cov_eq, if_pos hj] at hc
    have := (lits_lb L t.ks m (fun k hk m hm => lit_lb k (h4 k hk) ((covs_all L t.ks).1 hc k hk) m hm) hin.low x hx).2
    omega
  have HEQ : Hid (cls L t m = clss L t.ks m ++ (lits L t.ks m).map (fun l => [h, -l]) ++ [(-h) :: lits L t.ks m]) := by
    show _ = _
    rw [cls_eq, if_pos hj, if_neg (by omega), ho, show ((m + hlps t.ks + 1 : Nat) : Int) = h by omega]
    unfold cdef; rw [if_neg (by decide), if_neg (by decide), ← List.append_assoc]
  obtain ⟨n, hn⟩ : ∃ n, t.ks.length = n := ⟨_, rfl⟩
  have HN := mkHid hn
  rw [Four, ho, hn] at F1
  rw [ho] at CJ
  unfold Tm.val
  rw [ho, hn] at hW ⊢
  rw [hn] at hkl
  have hm9 : m + hlps t.ks ≤ 8000 := by omega
  clear hin ih h4 hj hse hh1 hmost hsz hn ho
  generalize w.alloc (boxT t) = W at *
  have HB0 := mkHid B0
  obtain ⟨f0, f1, f2, f3⟩ := F1
  simp only [Nat.zero_add] at f1 f2 f3
  have hn9 : n ≤ 9223372036854775807 := by omega
  have HM9 := mkHid hm9
  have HHH := mkHid hh
  have HHL := mkHid hhl
  clear hm9 hh
  go_enter Tryd.func68, Tryd.ntmps68
  go_wp2_with ((with_reducible refine CJ.out.mono ?_)); rintro e w1 ⟨rfl, hb1⟩; have HK0 := mkHid (cell_later hb1 f0); have HK3 := mkHid (cell_later hb1 f3); have HB1 := mkHid (bon HB0.out hb1)
  clear f0 f1 f2 f3 hW CJ B0 HB0 hb1
  have HQ0 := mkHid (CQ.start w1)
  have HB2 := mkHid (bal (bel_alloc w1 (.cells #[] 54)) (.cells #[] 3))
  go_wp2
  go_loopw [2, 7, 8, 9] (fun a p q i w' => ∃ (k : Nat) (x y : Int) (us : List Value), i = .int .i64 x ∧ x = k ∧ k ≤ n ∧ a = .int .i64 y ∧ y = ((m + hlps (t.ks.take k) : Nat) : Int) ∧ Hid (CQ w' w1.heap.size p (clss L (t.ks.take k) m) us q (lits L (t.ks.take k) m)) ∧ Hid (Below w1.heap.size w1 w')) (fun _ _ _ i _ => (n - intOf i).toNat)
  case atStart => exact ⟨0, 0, _, [], rfl, rfl, Nat.zero_le _, rfl, by simp [hlps], HQ0, HB2⟩
  case round =>
    clear HQ0 HB2
    obtain ⟨k, x, y, us, rfl, hxk, hk, rfl, hy, HQ, BX⟩ := hrel
    obtain rfl : x = (k : Int) := hxk
    have y3 := cell_later BX.out HK3.out
    by_cases hlt : k < n
    · have hk' : k < t.ks.length := by rw [HN.out]; exact hlt
      obtain ⟨kin, b, o, ha, hbl, kf⟩ := HIN.out.tin.kid k hk'
      have BW := mkHid (Below.trans HB1.out (BX.out.mono HB1.out.size))
      have KF : Hid (∀ w', Below w1.heap.size w1 w' → Four w' b (o + k * 4) t.ks[k]) := fun w' hb => kf.keep (HB1.out.trans (hb.mono HB1.out.size)) hbl
      have KIN : Hid (∀ w', Below w1.heap.size w1 w' → CIn L va t.ks[k] (m + hlps (t.ks.take k)) w') := fun w' hb => (HIN.out.kid HJ.out H4.out hk').later (HB1.out.trans (hb.mono HB1.out.size))
      have CL : Hid (∀ w', Below w1.heap.size w1 w' → Calls Tryd.prog 69 #[va, t.ks[k].val, .int .i64 y] w' (RetV (.int .i64 (lit L t.ks[k] (m + hlps (t.ks.take k)))) w')) := fun w' hb => by rw [hy]; exact (KIN.out w' hb).lit
      have CH : Hid (∀ w', Below w1.heap.size w1 w' → Calls Tryd.prog 70 #[t.ks[k].val] w' (RetV (.int .i64 (hlp t.ks[k] : Int)) w')) := fun w' hb => (KIN.out w' hb).hlp
      have CC : Hid (∀ w', Below w1.heap.size w1 w' → Calls Tryd.prog 68 #[va, t.ks[k].val, .int .i64 y] w' (ClsP L t.ks[k] (m + hlps (t.ks.take k)) w')) := fun w' hb => by rw [hy]; exact IH.out k hk' w' (KIN.out w' hb)
      have e1 := lits_take L hk' m
      have e2 := clss_take L hk' m
      have e3 := hlps_take hk'
      have e4 := hlps_take_le t.ks (k + 1)
      rw [e3] at e4
      have c1 := HCL.out (k + 1)
      rw [e2, List.length_append] at c1
      have l1' : (lits L (t.ks.take k) m).length ≤ 2000 := by rw [lits_len, List.length_take]; omega
      have HE1 := mkHid e1
      have HE2 := mkHid e2
      have m9 := HM9.out
      have b2 : y + (hlp t.ks[k] : Int) ≤ 9223372036854775807 := by omega
      have b4 : -9223372036854775808 ≤ y + (hlp t.ks[k] : Int) := by omega
      have b6 : y + (hlp t.ks[k] : Int) = ((m + hlps (t.ks.take (k + 1)) : Nat) : Int) := by rw [e3, hy]; omega
      have H6 := mkHid b6
      have HC1 := mkHid c1
      have HL1 := mkHid l1'
      rw [ha] at y3 ⊢
      have HKX : Hid (∀ w', Below w1.heap.size w1 w' → w'.cell? ⟨w.heap.size, 3, none⟩ = some (.slice (some ⟨b, o, none⟩) n t.c)) := fun w' hb => by have := cell_later hb HK3.out; rw [ha] at this; exact this
      obtain ⟨g0, g1, g2, g3⟩ := KF.out _ BX.out
      clear ha kin kf e1 e2 e3 e4 b6 hy c1 l1' m9 KIN IH HIN HEQ HHL HHH hhl HLB HCL
      clear hbl
      generalize t.ks[k] = z at *
      clear hk'
      unfold Tm.val at CL CH CC
      have hk2 : (k : Int) < (n : Int) := by omega
      generalize lit L z (m + hlps (t.ks.take k)) = lz at *
      go_wp2_with (first
        | (go_at_call 69; ((with_reducible refine (CL.out _ BX.out).mono ?_)); rintro e w4 ⟨rfl, hb4⟩; have BX4 := mkHid (bon BX.out hb4); obtain ⟨v5, w5, hrun5, hq5, hb5⟩ := CQ.num (HQ.out.later hb4) lz (Nat.le_trans HL1.out (by omega)) BX4.out.size; have HQ5 := mkHid hq5; have BX5 := mkHid (BX4.out.trans hb5); clear hb4 hb5 hq5 HQ; have z3 := HKX.out _ BX5.out; obtain ⟨p0, p1, p2, p3⟩ := KF.out _ BX5.out; clear y3 g0 g1 g2 g3)
        | (at_builtin
           refine wpList_run rfl (.tmp 35) (.tmp 37) rfl rfl (by rfl) (by rfl) hrun5 ?_; clear hrun5)
        | (go_at_call 68; ((with_reducible refine (CC.out _ BX5.out).mono ?_)); rintro e w6 ⟨v6, us6, rfl, hb6, hc6⟩; have BX6 := mkHid (bon BX5.out hb6); obtain ⟨v7, w7, hrun7, hq7, hb7⟩ := CQ.more (HQ5.out.later hb6) hc6 BX5.out.size HQ5.out.lt (Nat.le_trans HC1.out (by omega)) BX6.out.size; have HQ7 := mkHid hq7; have BX7 := mkHid (BX6.out.trans hb7); clear hb6 hb7 hq7 hc6 HQ5; have y3 := HKX.out _ BX7.out; obtain ⟨g0, g1, g2, g3⟩ := KF.out _ BX7.out; clear z3 p0 p1 p2 p3)
        | (at_builtin
           refine wpList_run rfl (.tmp 39) (.tmp 47) rfl rfl (by rfl) (by rfl) hrun7 ?_; clear hrun7)
        | (go_at_call 70; ((with_reducible refine (CH.out _ BX7.out).mono ?_)); rintro e w8 ⟨rfl, hb8⟩))
      go_roundw
      case rel => exact ⟨k + 1, _, _, us ++ us6, rfl, by omega, by omega, rfl, H6.out, mkHid (by rw [HE1.out, HE2.out]; exact HQ7.out.later hb8), mkHid (bon BX7.out hb8)⟩
      case measure => simp [intOf]; omega
    · obtain rfl : k = n := by omega
      have htk : t.ks.take k = t.ks := List.take_of_length_le (by rw [HN.out]; exact Nat.le_refl _)
      rw [htk] at hy HQ
      have z0 := cell_later BX.out HK0.out
      have hll : (lits L t.ks m).length = k := by rw [lits_len, HN.out]
      have hcl := HCL.out k
      rw [htk] at hcl
      have hyh : y + 1 = h := by rw [hy]; exact HHH.out
      have q1 : y + 1 ≤ 9223372036854775807 := by omega
      have q2 : -9223372036854775808 ≤ y + 1 := by omega
      have q3 : h ≤ 9223372036854775807 := by omega
      have q4 : -9223372036854775808 ≤ h := by omega
      have q5 : -9223372036854775808 ≤ -h := by omega
      have q6 : -h ≤ 9223372036854775807 := by omega
      have HHI := mkHid (And.intro HHL.out hll)
      clear htk IH HHH HCL hy hhl HM9 HIN H4
      have hcl2 : ∀ j, (clss L t.ks m ++ ((lits L t.ks m).take j).map (fun l => [h, -l])).length ≤ 50000 := fun j => by rw [List.length_append, List.length_map, List.length_take]; omega
      have HC2 := mkHid hcl2
      have HTF : Hid ((lits L t.ks m).take k = lits L t.ks m) := List.take_of_length_le (by rw [hll]; exact Nat.le_refl _)
      have HTS : Hid (∀ j (hj : j < (lits L t.ks m).length), (lits L t.ks m).take (j + 1) = (lits L t.ks m).take j ++ [(lits L t.ks m)[j]]) := fun j hj => List.take_succ_eq_append_getElem hj
      have HLL := mkHid hll
      have HR0 : Hid (CQ wr w1.heap.size u7 (clss L t.ks m ++ ((lits L t.ks m).take 0).map (fun l => [h, -l])) us u8 (lits L t.ks m)) := by
        have := HQ.out
        show CQ _ _ _ _ _ _ _
        simpa using this
      clear hcl2 HQ hll hcl
      generalize clss L t.ks m = CS at *
      generalize lits L t.ks m = R at *
      obtain ⟨qa, qc, rfl⟩ := own_val HR0.out.nums
      rw [HLL.out]
      go_wp2
      go_loopw [7, 13] (fun p i w' => ∃ (j : Nat) (x : Int) (us : List Value), i = .int .i64 x ∧ x = j ∧ j ≤ k ∧ Hid (CQ w' w1.heap.size p (CS ++ (R.take j).map (fun l => [h, -l])) us (.slice qa R.length qc) R) ∧ Hid (Below w1.heap.size w1 w')) (fun _ i _ => (k - intOf i).toNat)
      case atStart => exact ⟨0, 0, us, rfl, rfl, Nat.zero_le _, HR0, BX⟩
      case round =>
        clear HR0 BX HK0 HK3 z0 q1 q2 hyh
        obtain ⟨j, x, us, rfl, hxj, hj, HQ, BX⟩ := hrel
        obtain rfl : x = (j : Int) := hxj
        by_cases hjk : j < k
        · have hjR : j < R.length := by rw [HLL.out]; exact hjk
          obtain ⟨g, c, e, hgl, hcell⟩ := HQ.out.cell j hjR
          simp only [Value.slice.injEq, true_and] at e
          obtain ⟨rfl, rfl⟩ := e
          have hlb := HLB.out R[j] (List.getElem_mem _)
          have HT1 := mkHid (HTS.out j hjR)
          have hjk2 : (j : Int) < (k : Int) := by omega
          obtain ⟨rj, hrj⟩ : ∃ rj, R[j] = rj := ⟨_, rfl⟩
          rw [hrj] at hcell hlb HT1
          have q7 : -9223372036854775808 ≤ -rj := by omega
          have q8 : -rj ≤ 9223372036854775807 := by omega
          clear hrj hjR hlb HTS
          have b6 := bel_alloc wr (.cells #[.int .i64 (h), .int .i64 (-rj)] 3)
          have ho := own_lit (w := wr) [h, -rj] 2 #[.int .i64 (h), .int .i64 (-rj)] rfl (by omega) rfl
          have b7 := bel_alloc (wr.alloc (.cells #[.int .i64 (h), .int .i64 (-rj)] 3)) (.cells #[.slice (some ⟨wr.heap.size, 0, none⟩) 2 2] 54)
          have hone := one_cell (wr.alloc (.cells #[.int .i64 (h), .int .i64 (-rj)] 3)) (.slice (some ⟨wr.heap.size, 0, none⟩) 2 2) 54
          obtain ⟨v9, w9, hrun, hq9, hb9⟩ := CQ.row (HQ.out.later (bon b6 b7)) (own_lat' ho b7) BX.out.size HQ.out.lt hone (HC2.out j) (bon BX.out (bon b6 b7)).size
          rw [size_alloc] at hrun
          have hq9' : CQ w9 w1.heap.size v9 (CS ++ (R.take (j + 1)).map (fun l => [h, -l])) (us ++ [.slice (some ⟨wr.heap.size, 0, none⟩) 2 2]) (.slice (some ⟨g, 0, none⟩) R.length qc) R := by
            rw [HT1.out, List.map_append, ← List.append_assoc]; exact hq9
          have HQ9 := mkHid hq9'
          have BX9 := mkHid ((bon BX.out (bon b6 b7)).trans hb9)
          clear b6 ho b7 hone hq9 hq9' hb9 HQ HT1 HC2 HTF HLB
          go_wp2_with (at_builtin
                       refine wpList_run rfl (.tmp 110) (.tmp 118) rfl rfl (by rfl) (by rfl) hrun ?_)
          go_roundw
          case rel => exact ⟨j + 1, _, _, rfl, by omega, by omega, HQ9, BX9⟩
          case measure => simp [intOf]; omega
        · obtain rfl : j = k := by omega
          rw [HTF.out] at HQ
          have hrl : R.length ≤ 3000 := by rw [HLL.out]; omega
          have b6 := bel_alloc wr (.cells #[.int .i64 (-h)] 3)
          have ho := own_lit (w := wr) [-h] 1 #[.int .i64 (-h)] rfl (by omega) rfl
          have hcc := HC2.out j
          rw [HTF.out] at hcc
          obtain ⟨v6, w6, hrun6, ho6, hb6⟩ := run_more ho (own_il (own_lat' HQ.out.nums b6)) (by simp only [List.length_singleton]; omega) b6.size
          rw [HLL.out] at hrun6
          obtain ⟨a6, c6, rfl⟩ := own_val ho6
          have BY6 := mkHid (b6.trans hb6)
          have b7 := bel_alloc w6 (.cells #[.slice a6 ([-h] ++ R).length c6] 54)
          obtain ⟨v9, w9, hrun9, hq9, hb9⟩ := CQ.row (HQ.out.later (bon BY6.out b7)) (own_lat' ho6 b7) BX.out.size HQ.out.lt (one_cell w6 _ 54) hcc (bon BX.out (bon BY6.out b7)).size
          have HQ9 := mkHid hq9
          have BX9 := mkHid ((bon BX.out (bon BY6.out b7)).trans hb9)
          clear b6 ho hb6 ho6 b7 hq9 hb9 hcc hrl HTF HTS HC2
          go_wp2_with (first
            | (at_builtin
               refine wpList_run rfl (.tmp 123) (.tmp 124) rfl rfl (by rfl) (by rfl) hrun6 ?_; clear hrun6)
            | (at_builtin
               refine wpList_run rfl (.tmp 120) (.tmp 126) rfl rfl (by rfl) (by rfl) hrun9 ?_; clear hrun9))
          go_ret
          exact ⟨_, _, rfl, HB1.out.trans (BX9.out.mono HB1.out.size), by rw [HEQ.out]; exact (HQ9.out).rows.base_le HB1.out.size⟩
end Go.Proofs.YtaiachmolkjedaaDoor
