/-
  What package subst's 'namesOf' does.
-/
import Derived.Test.YtaibmdikimpooaaDoorSbM
namespace Go.Proofs.YtaibmdikimpooaaDoor
open Go.RowKit Go.Maps

set_option maxRecDepth 100000 in
set_option maxHeartbeats 8000000 in
theorem namesOf_any (ts : List Tm) (sv : Value) (w : World) (hr : SbTs w sv ts) (hl : ts.length ≤ 1000) (hin : ∀ t ∈ ts, TIn w w.heap.size t) (hS : Shps w) : Calls Tryd.prog 50 #[sv] w (NmsP ts w) := by
  have hmm := @run_makeMap Tryd.prog
  have HR := mkHid hr
  have HIN := mkHid hin
  have HS := mkHid hS
  obtain ⟨a, c, rfl, -⟩ := hr
  obtain ⟨n, hn⟩ : ∃ n, ts.length = n := ⟨_, rfl⟩
  have HN := mkHid hn
  rw [hn] at hl ⊢
  clear hin hS hn
  have hn9 : n ≤ 9223372036854775807 := by omega
  have HM0 := mkHid (NMap.made w)
  have HB0 := mkHid (bel_alloc w (.map #[] 0))
  have HC0 : Hid (CntP (fun _ => 0) 0 (ts.take 0)) := fun s => ⟨by simp, by simp, by simp⟩
  go_enter Tryd.func50, Tryd.ntmps50
  go_wp2
  clear hmm
  go_loopw [11] (fun i w' => ∃ (k : Nat) (x : Int) (q : Nat) (f : ByteArray → Int), i = .int .i64 x ∧ x = k ∧ k ≤ n ∧ q ≤ k * 2000 ∧ Hid (NMap w' w.heap.size q f) ∧ Hid (CntP f q (ts.take k)) ∧ Hid (Below w.heap.size w w') ∧ Hid (w.heap.size < w'.heap.size)) (fun i _ => (n - intOf i).toNat)
  case atStart => exact ⟨0, 0, 0, _, rfl, rfl, Nat.zero_le _, Nat.zero_le _, HM0, HC0, HB0, mkHid (by simp)⟩
  case round =>
    clear HM0 HC0 HB0
    obtain ⟨k, x, q, f, rfl, hxk, hk, hq, HM, HC, HB, HSZ⟩ := hrel
    obtain rfl : x = (k : Int) := hxk
    by_cases hlt : k < n
    · have hk' : k < ts.length := by rw [HN.out]; exact hlt
      obtain ⟨a', c', e, hrow⟩ := HR.out.later HB.out
      simp only [Value.slice.injEq] at e
      obtain ⟨rfl, -, rfl⟩ := e
      obtain ⟨b, o, rfl, -, kf⟩ := hrow k hk'
      have hb1 := bel_alloc wr (boxT ts[k])
      have F0 := box_four wr ts[k]
      have NA := mkHid (snames_any ts[k] (wr.alloc (boxT ts[k])) ((HIN.out _ (List.getElem_mem hk')).later (bon HB.out hb1)) (HS.out.later (bon HB.out hb1)))
      have hW : wr.alloc (.cells #[.int .i64 ts[k].op, .string ts[k].nm, .int .i64 ts[k].n, .slice ts[k].a ts[k].ks.length ts[k].c] 24) = wr.alloc (boxT ts[k]) := rfl
      have HT : Hid (ts.take (k + 1) = ts.take k ++ [ts[k]]) := List.take_succ_eq_append_getElem hk'
      have HM1 := mkHid (HM.out.later hb1)
      have HB1 := mkHid (bon HB.out hb1)
      have HSZ1 : Hid (w.heap.size < (wr.alloc (boxT ts[k])).heap.size) := Nat.lt_of_lt_of_le HSZ.out hb1.size
      clear hrow hb1 HM HB HSZ
      generalize ts[k] = t at *
      clear hk'
      generalize wr.alloc (boxT t) = W1 at *
      obtain ⟨g0, g1, g2, g3⟩ := kf
      obtain ⟨u0, u1, u2, u3⟩ := F0
      simp only [Nat.zero_add] at u1 u2 u3
      unfold Tm.val at NA
      have hk2 : (k : Int) < (n : Int) := by omega
      go_wp2_with fail
      ((with_reducible refine NA.out.mono ?_)); rintro e w4 ⟨⟨L, v, rfl, own, hll, hsz, hfr⟩, hb4⟩
      obtain ⟨A, cL, rfl⟩ := own_slice own
      have HOWN := mkHid own
      have HFR := mkHid hfr
      have HSS := mkHid hsz
      have HM4 := mkHid (HM1.out.later hb4)
      have HB4 := mkHid (bon HB1.out hb4)
      have HSZ4 : Hid (w.heap.size < W1.heap.size ∧ W1.heap.size ≤ w4.heap.size) := ⟨HSZ1.out, hb4.size⟩
      have HQ0 := mkHid (CntQ.start HC.out L)
      have HCC := mkHid (fun (f' : ByteArray → Int) (n : Nat) (h : CntQ f f' n L.length L) => CntQ.fin HC.out h hfr)
      clear own hfr hsz NA hb4 u0 u1 u2 u3 hW HM1 HB1 HSZ1 HC g0 g1 g2 g3
      generalize hn' : L.length = m at *
      have HMM := mkHid hn'
      clear hn'
      have hm9 : m ≤ 9223372036854775807 := by omega
      go_wp2
      go_loopw [18] (fun i w' => ∃ (j : Nat) (x : Int) (f' : ByteArray → Int), i = .int .i64 x ∧ x = j ∧ j ≤ m ∧ Hid (NMap w' w.heap.size (q + j) f') ∧ Hid (CntQ f f' (q + j) j L) ∧ Hid (But w.heap.size w4 w')) (fun i _ => (m - intOf i).toNat)
      case atStart => exact ⟨0, 0, _, rfl, rfl, Nat.zero_le _, HM4, HQ0, mkHid (But.refl _ _)⟩
      case round =>
        clear HM4 HQ0
        obtain ⟨j, x, f', rfl, hxj, hj, HM, HQ, HBT⟩ := hrel
        obtain rfl : x = (j : Int) := hxj
        by_cases hlj : j < m
        · have own := own_but HOWN.out HBT.out HSZ4.out.1
          obtain ⟨g, c', e⟩ := own_some own (by omega)
          simp only [Value.slice.injEq, true_and] at e
          obtain ⟨rfl, rfl⟩ := e
          obtain ⟨y0, y1, y2, y3, y4⟩ := own_five own HMM.out j hlj
          have hns := HSS.out (L.getD j noNm) ((mem_getD L _).2 ⟨j, by rw [HMM.out]; exact hlj, rfl⟩)
          have HQ1 := mkHid HQ.out.step
          obtain ⟨hp0, hp1, -⟩ := HQ.out (L.getD j noNm).1
          clear own HQ
          generalize L.getD j noNm = cur at *
          obtain ⟨cn, co⟩ := cur
          dsimp only at y0 y1 y2 y3 y4 hns HQ1 hp0 hp1
          have hb5 := bel_alloc wr (.cells #[.string cn, .int .i64 co, .string cn, .int .i64 0, .slice none 0 0] 38)
          have HM5 := mkHid (HM.out.later hb5)
          have HBT5 := mkHid (HBT.out.trans (But.of hb5))
          have hlook := HM5.out.look hns
          obtain ⟨D, hD, hf⟩ := HM5.out
          have HD := mkHid hD
          have HF := mkHid hf
          have hj2 : (j : Int) < (m : Int) := by omega
          have hv1 : f' cn + 1 ≤ 9223372036854775807 := by omega
          have hv2 : -9223372036854775808 ≤ f' cn + 1 := by omega
          have hqm : q + j < maxLen := by unfold maxLen; omega
          have hwf : (Lit.int .i64 (f' cn + 1)).wf = true := by
            have h1 : IntKind.i64.min = -9223372036854775808 := by decide
            have h2 : IntKind.i64.max = 9223372036854775807 := by decide
            simp only [Lit.wf, h1, h2, Bool.and_eq_true, decide_eq_true_eq]
            omega
          clear hD hf HM hb5 HM5 hp0 hp1
          go_wp2_with (at_mapUpdate; refine wpList_mapUpdate_own _ rfl _ _ _ 69 rfl 9 3 str_keyed Tryd.underlying69 (plainElem Tryd.prog 3) w.heap.size (q + j) D rfl HD.out hqm _ _ _ rfl rfl (str_key hns) _ [] (plainElem_int Tryd.underlying3 hwf) ?_; intro w7 hown7 hgrow7)
          have HM7 := mkHid (NMap.put HD.out.isMap HF.out hns hown7)
          have HBT7 := mkHid (HBT5.out.trans (⟨hgrow7.os, hgrow7.tape, hgrow7.output, hgrow7.size, fun k hk hs => hgrow7.block k hk (by intro e; cases e; exact hs rfl)⟩ : But w.heap.size _ w7))
          go_roundw
          case rel => exact ⟨j + 1, _, _, rfl, by omega, by omega, HM7, HQ1, HBT7⟩
          case measure => simp [intOf]; omega
        · obtain rfl : j = m := by omega
          have HB5 := mkHid (HB4.out.trans (HBT.out.below (Nat.le_refl _) (by have := HSZ4.out; omega)))
          have HS5 : Hid (w.heap.size < wr.heap.size) := by have := HSZ4.out; have := HBT.out.size; show _ < _; omega
          have HC5 := mkHid (HCC.out f' (q + j) HQ.out)
          rw [← HT.out] at HC5
          go_wp2
          go_roundw
          case rel => exact ⟨k + 1, _, q + j, f', rfl, by omega, by omega, by omega, HM, HC5, HB5, HS5⟩
          case measure => simp [intOf]; omega
    · obtain rfl : k = n := by omega
      have htk : ts.take k = ts := List.take_of_length_le (by rw [HN.out]; exact Nat.le_refl _)
      rw [htk] at HC
      clear htk
      go_wp2
      go_ret
      exact ⟨q, f, rfl, HM.out, HC.out, HB.out⟩
end Go.Proofs.YtaibmdikimpooaaDoor
