/-
  What 'Times' does.
-/
import Derived.Test.YtkgaoafcjhjefaaRefM
import Derived.StillTailTactics
namespace Go.Proofs.Ytkgaoafcjhjefaa
open Go.RowKit Go.Shelf

/-- the facts of a product's rounds, by name -/
structure TimesR (xs ys : List Int) (f g : Nat → Int) (n m L : Nat) (z : Int) where
  P : Nat → List Int → Prop
  Q : Nat → Nat → List Int → Prop
  S : Nat → Nat → List Int → Prop
  p0 : P 0 (List.replicate L 0)
  pq : ∀ i os, P i os → Q i 0 os
  qq : ∀ i k os, i < n → k < m → Q i k os → Q i (k + 1) (os.set (i + k) (os.getD (i + k) 0 + f i * g k))
  ql : ∀ i k os, Q i k os → os.length = L
  qb : ∀ i k os j, Q i k os → 0 ≤ os.getD j 0 ∧ os.getD j 0 ≤ 90
  qs : ∀ i os, i < n → Q i m os → S i 0 os
  ss : ∀ i k os, S i k os → k + 1 < L → S i (k + 1) ((os.set (k + 1) (os.getD (k + 1) 0 + os.getD k 0 / 10)).set k (os.getD k 0 % 10))
  sl : ∀ i k os, S i k os → os.length = L
  sb : ∀ i k os, S i k os → (0 ≤ os.getD k 0 ∧ os.getD k 0 ≤ 99) ∧ (0 ≤ os.getD (k + 1) 0 ∧ os.getD (k + 1) 0 ≤ 90)
  sp : ∀ i k os, i < n → S i k os → k + 1 = L → P (i + 1) os
  pf : ∀ os, P n os → Digs os ∧ os.length = L ∧ valD os = z
theorem times_facts (xs ys : List Int) (dx : Digs xs) (dy : Digs ys) : Nonempty (TimesR xs ys (fun j => xs.getD j 0) (fun j => ys.getD j 0) xs.length ys.length (xs.length + ys.length + 1) (valD xs * valD ys)) := by
  refine ⟨{ P := fun i os => os.length = xs.length + ys.length + 1 ∧ Digs os ∧ valD os = valD (xs.take i) * valD ys,
            Q := fun i k os => TIn (fun j => xs.getD j 0) (fun j => ys.getD j 0) (xs.length + ys.length + 1) i k (valD (xs.take i) * valD ys + 10 ^ i * (xs.getD i 0 * valD (ys.take k))) os,
            S := fun i k os => TOut (xs.length + ys.length + 1) k (valD (xs.take (i + 1)) * valD ys) os,
            p0 := ?_, pq := ?_, qq := ?_, ql := fun i k os h => h.len, qb := fun i k os j h => h.low j, qs := ?_, ss := fun i k os h hk => h.step hk, sl := fun i k os h => h.len, sb := fun i k os h => ⟨h.here, h.rest (k + 1) (by omega)⟩, sp := ?_, pf := ?_ }⟩
  · refine ⟨by simp, ?_, by rw [valD_replicate]; simp [valD]⟩
    intro d hd
    have := (List.mem_replicate.1 hd).2
    omega
  · rintro i os ⟨hl, hd, hv⟩
    have := hd.tin (f := fun j => xs.getD j 0) (g := fun j => ys.getD j 0) (i := i) hl
    rw [hv] at this
    simpa [valD] using this
  · intro i k os hi hk h
    have := h.step (dx.get i) (dy.get k) (by omega)
    rw [prod_round] at this
    exact this
  · intro i os hi h
    have := h.out
    rw [List.take_length, prod_next] at this
    exact this
  · intro i k os hi h hk
    refine ⟨h.len, h.fin hk ?_, h.val⟩
    exact prod_lt dx dy (i + 1) k (by omega)
  · rintro os ⟨hl, hd, hv⟩
    exact ⟨hd, hl, by rw [hv, List.take_length]⟩
theorem madeInts (n : Nat) : (madeCells (Value.int .i64 0).cells (n * 1)).toList = (List.replicate n (0 : Int)).map (Value.int .i64) := by
  show (madeCells #[Value.int .i64 0] (n * 1)).toList = _
  rw [toList_madeCells_one, Nat.mul_one, List.map_replicate]
theorem map_set_int (os : List Int) (j : Nat) (v : Int) : (os.map (Value.int .i64)).set j (.int .i64 v) = (os.set j v).map (Value.int .i64) := by
  rw [List.map_set]
theorem own_int {w : World} {base e g L cap : Nat} {os : List Int} (h : w.ownsRow base e 1 (.slice (some ⟨g, 0, none⟩) L cap) L (os.map (Value.int .i64))) (j : Nat) (hj : j < L) : w.cell? ⟨g, j, none⟩ = some (.int .i64 (os.getD j 0)) := by
  have hl : os.length = L := by have := h.1; simpa using this
  rw [h.cellAt j (by omega)]
  simp [List.getElem?_map, List.getElem?_eq_getElem (show j < os.length by omega)]

/-- the boxes of the two numbers and of the result, and the row that is filled -/
structure TS (w0 : World) (s t : Bool) (A B : Option Addr) (n m c d G L : Nat) (os : List Int) (w : World) : Prop where
  own : w.ownsRow (w0.heap.size + 3) 3 1 (.slice (some ⟨G, 0, none⟩) L L) L (os.map (Value.int .i64))
  a0 : w.cell? ⟨w0.heap.size, 0, none⟩ = some (.bool s)
  a1 : w.cell? ⟨w0.heap.size, 1, none⟩ = some (.slice A n c)
  b0 : w.cell? ⟨w0.heap.size + 1, 0, none⟩ = some (.bool t)
  b1 : w.cell? ⟨w0.heap.size + 1, 1, none⟩ = some (.slice B m d)
  r : Two w (w0.heap.size + 1 + 1) (.bool false) (.slice none 0 0)
  bel : Below w0.heap.size w0 w
theorem TS.keep {w0 : World} {s t : Bool} {A B : Option Addr} {n m c d G L : Nat} {os os' : List Int} {w w' : World} (h : TS w0 s t A B n m c d G L os w) (hb : Below (w0.heap.size + 3) w w')
    (own : w'.ownsRow (w0.heap.size + 3) 3 1 (.slice (some ⟨G, 0, none⟩) L L) L (os'.map (Value.int .i64))) : TS w0 s t A B n m c d G L os' w' where
  own := own
  a0 := by rw [hb.cell (by simp)]; exact h.a0
  a1 := by rw [hb.cell (by simp)]; exact h.a1
  b0 := by rw [hb.cell (by simp)]; exact h.b0
  b1 := by rw [hb.cell (by simp)]; exact h.b1
  r := by
    obtain ⟨r0, r1, f0, f1⟩ := h.r
    refine ⟨?_, ?_, ?_, ?_⟩
    · rw [hb.cell (by simp)]; exact r0
    · rw [hb.cell (by simp)]; exact r1
    · rw [hb.frozen (by simp)]; exact f0
    · rw [hb.frozen (by simp)]; exact f1
  bel := h.bel.trans (hb.mono (by omega))
theorem TS.store {w0 : World} {s t : Bool} {A B : Option Addr} {n m c d G L : Nat} {os : List Int} {w : World} (h : TS w0 s t A B n m c d G L os w) (j : Nat) (v : Int) :
    TS w0 s t A B n m c d G L (os.set j v) (w.setCell ⟨G, j, none⟩ (.int .i64 v)) := by
  have hst := h.own.stored j (.int .i64 v)
  rw [map_set_int] at hst
  have hG := (h.own.lt G rfl)
  exact h.keep (Below.grown (Below.refl _ _) hst.2 (by omega) (fun k hk => by cases hk; exact hG.1)) hst.1
theorem TS.drew {w0 : World} {s t : Bool} {A B : Option Addr} {n m c d G L : Nat} {os : List Int} {w : World} (h : TS w0 s t A B n m c d G L os w) : TS w0 s t A B n m c d G L os w.drew :=
  h.keep (Below.refl _ _).drew h.own.drew

set_option maxHeartbeats 4000000 in
set_option maxRecDepth 100000 in
theorem times_core (s t : Bool) (A B : Option Addr) (c d : Nat) (xs ys : List Int) (w : World) (hx : Lies w A xs) (hy : Lies w B ys) (dx : Digs xs) (dy : Digs ys) (nx : xs.length ≤ 100) (ny : ys.length ≤ 100) :
    Calls Try.prog 24 #[.agg #[.bool s, .slice A xs.length c], .agg #[.bool t, .slice B ys.length d]] w fun e w' => (∃ v, e = .returned v ∧ Num w' v (sg (s != t) (valD xs * valD ys))) ∧ Below w.heap.size w w' := by
  obtain ⟨i0, hi0, hz0, hz1, hz2⟩ := info_parts int_info
  obtain ⟨R⟩ := times_facts xs ys dx dy
  have CT := mkHid (fun A c ds w h hd hl hn => r_cut (s != t) A c ds w h hd hl hn)
  have bf := mkHid (fun j => dx.get j)
  have bg := mkHid (fun j => dy.get j)
  have rdA : Hid (∀ k : Nat, k < xs.length → ∃ g, A = some ⟨g, 0, none⟩ ∧ ∀ w', Below w.heap.size w w' → w'.cell? ⟨g, k, none⟩ = some (.int .i64 (xs.getD k 0))) := by
    intro k hk
    rcases hx with rfl | ⟨g, rfl, hg, hc⟩
    · simp at hk
    · exact ⟨g, rfl, fun w' hb => cell_later hb (hc k hk)⟩
  have rdB : Hid (∀ k : Nat, k < ys.length → ∃ g, B = some ⟨g, 0, none⟩ ∧ ∀ w', Below w.heap.size w w' → w'.cell? ⟨g, k, none⟩ = some (.int .i64 (ys.getD k 0))) := by
    intro k hk
    rcases hy with rfl | ⟨g, rfl, hg, hc⟩
    · simp at hk
    · exact ⟨g, rfl, fun w' hb => cell_later hb (hc k hk)⟩
  generalize hf : (fun j => xs.getD j 0) = f at R
  generalize hg : (fun j => ys.getD j 0) = g at R
  have ef : ∀ j, xs.getD j 0 = f j := fun j => by rw [← hf]
  have eg : ∀ j, ys.getD j 0 = g j := fun j => by rw [← hg]
  simp only [ef, eg] at *
  clear ef eg hf hg dx dy hx hy
  generalize valD xs * valD ys = z at *
  generalize hn : xs.length = n at *
  generalize hm : ys.length = m at *
  have hL : n + m + 1 ≤ 201 := by omega
  have rp0 := mkHid R.p0; have rpq := mkHid R.pq; have rqq := mkHid R.qq; have rql := mkHid R.ql; have rqb := mkHid R.qb; have rqs := mkHid R.qs; have rss := mkHid R.ss; have rsl := mkHid R.sl; have rsb := mkHid R.sb; have rsp := mkHid R.sp; have rpf := mkHid R.pf
  generalize R.P = P at *
  generalize R.Q = Q at *
  generalize R.S = S at *
  clear R
  go_enter Try.func24, Try.ntmps24
  go_wp2_with (at_make; refine wpList_make_full _ rfl _ _ 23 rfl (w.heap.size + 3) 3 i0 _ 1 Try.underlying23 hi0 hz0 hz1 _ _ _ _ (n + m + 1) rfl rfl (by omega) (by omega) (by rw [hz2]; omega) (by simp only [maxLen]; omega) (by simp) ?_; intro w1 hown0 hg0)
  have hT0 : ∃ G, G = w.heap.size + 1 + 1 + 1 ∧ TS w s t A B n m c d G (n + m + 1) (List.replicate (n + m + 1) 0) w1 := by
    rw [madeInts] at hown0
    have hb0 := Below.grown (Below.refl (w.heap.size + 3) (((w.alloc (.cells #[.bool s, .slice A n c] 25)).alloc (.cells #[.bool t, .slice B m d] 25)).alloc (.cells #[.bool false, .slice none 0 0] 25))) hg0 (by simp) (fun k hk => by cases hk)
    refine ⟨_, rfl, ?_⟩
    have own : w1.ownsRow (w.heap.size + 3) 3 1 (.slice (some ⟨w.heap.size + 1 + 1 + 1, 0, none⟩) (n + m + 1) (n + m + 1)) (n + m + 1) ((List.replicate (n + m + 1) (0 : Int)).map (Value.int .i64)) := by simpa using hown0
    refine ⟨own, ?_, ?_, ?_, ?_, ?_, (bal (bal (bal (Below.refl _ _) _) _) _).trans (hb0.mono (by omega))⟩
    · rw [hb0.cell (by simp)]; simp [go_sem]
    · rw [hb0.cell (by simp)]; simp [go_sem]
    · rw [hb0.cell (by simp)]; simp [go_sem]
    · rw [hb0.cell (by simp)]; simp [go_sem]
    · refine ⟨?_, ?_, ?_, ?_⟩
      · rw [hb0.cell (by simp)]; simp [go_sem]
      · rw [hb0.cell (by simp)]; simp [go_sem]
      · rw [hb0.frozen (by simp)]; simp [go_sem]
      · rw [hb0.frozen (by simp)]; simp [go_sem]
  obtain ⟨G, hG, hT⟩ := hT0
  rw [← hG]
  have HG := mkHid hG
  clear hG hown0 hg0
  go_loopw [6] (fun q w' => ∃ (i : Nat) (x : Int) (os : List Int), i ≤ n ∧ q = .int .i64 x ∧ x = i ∧ Hid (P i os) ∧ TS w s t A B n m c d G (n + m + 1) os w') (fun q _ => (n - intOf q).toNat)
  case atStart => exact ⟨0, 0, _, by omega, rfl, rfl, rp0, hT⟩
  case round =>
    obtain ⟨i, x, os, hi, rfl, hxi, hP, hTr⟩ := hrel
    obtain rfl : x = (i : Int) := hxi
    clear hT rp0
    have a1 := hTr.a1
    by_cases hlt : i < n
    · have hQ0 := mkHid (rpq.out i os hP.out)
      clear rpq hP rpf CT
      go_wp2_with fail
      go_loopw [7] (fun q w' => ∃ (k : Nat) (y : Int) (os : List Int), k ≤ m ∧ q = .int .i64 y ∧ y = k ∧ Hid (Q i k os) ∧ TS w s t A B n m c d G (n + m + 1) os w') (fun q _ => (m - intOf q).toNat)
      case atStart => exact ⟨0, 0, os, by omega, rfl, rfl, hQ0, hTr⟩
      case round =>
        clear hQ0 hTr a1
        obtain ⟨k, y, os, hk, rfl, hyk, hQ, hTr⟩ := hrel
        obtain rfl : y = (k : Int) := hyk
        have b1 := hTr.b1
        by_cases hlk : k < m
        · obtain ⟨ga, rfl, hA⟩ := rdA.out i hlt
          obtain ⟨gb, rfl, hB⟩ := rdB.out k hlk
          have hTd := hTr.drew
          have ca := hA _ hTd.bel
          have cb := hB _ hTd.bel
          have co := own_int hTd.own (i + k) (by omega)
          have fo := hTd.own.frozenAt (i + k)
          have e1 := hTd.a1
          have e2 := hTd.b1
          have hS := mkHid (rqq.out i k os hlt hlk hQ.out)
          have bo := rqb.out i k os (i + k) hQ.out
          have bi := bf.out i
          have bk := bg.out k
          have p0 : 0 ≤ f i * g k := Int.mul_nonneg bi.1 bk.1
          have p1 : f i * g k ≤ 81 := by
            have := Int.mul_le_mul bi.2 bk.2 bk.1 (by decide : (0 : Int) ≤ 9)
            omega
          have hst := mkHid (fun v => hTd.store (i + k) v)
          clear hA hB rdA rdB rqq rqb rqs rss rsl rsb rsp rql hQ hTr hTd bf bg
          generalize os.getD (i + k) 0 = ov at *
          generalize hfi : f i = fi at *
          generalize hgk : g k = gk at *
          clear hfi hgk
          have u1 : IntKind.i64.wrap (fi * gk) = fi * gk := IntWalk.i64_in _ (by omega)
          have u2 : IntKind.i64.wrap (ov + fi * gk) = ov + fi * gk := IntWalk.i64_in _ (by omega)
          have u3 : IntKind.i64.wrap ((i : Int) + (k : Int)) = (i : Int) + (k : Int) := IntWalk.i64_in _ (by omega)
          have u4 : ((i : Int) + (k : Int)).toNat = i + k := by omega
          have u5 : (0 : Int) ≤ (i : Int) + (k : Int) := by omega
          have u6 : (i : Int) + (k : Int) < (n : Int) + (m : Int) + 1 := by omega
          have u7 : i + k < n + m + 1 := by omega
          clear bo bi bk p0 p1
          go_wp2_with fail
          refine wp_region_still_tail 23 (by kernel_rfl) (by kernel_rfl) ?_
          change wpStill _ _ wr.drew (fun a' => wpList _ _ _ _ a' wr.drew) _ _
          generalize wr.drew = wd at *
          simp only [List.take_succ_cons, List.take_zero, List.drop_succ_cons, List.drop_zero]
          repeat still_step
          refine wpStill_nil ?_
          go_wp2
          go_roundw
          case rel => exact ⟨k + 1, _, _, by omega, rfl, by omega, hS, hst.out _⟩
          case measure => simp [intOf]; omega
        · obtain rfl : k = m := by omega
          have hS0 := mkHid (rqs.out i os hlt hQ.out)
          clear rqs rqq rqb rql hQ rdA rdB bf bg
          go_wp2_with fail
          go_loopw [8] (fun q w' => ∃ (j : Nat) (y : Int) (os : List Int), j ≤ n + k ∧ q = .int .i64 y ∧ y = j ∧ Hid (S i j os) ∧ TS w s t A B n k c d G (n + k + 1) os w') (fun q _ => (n + k - intOf q).toNat)
          case atStart => exact ⟨0, 0, os, by omega, rfl, rfl, hS0, hTr⟩
          case round =>
            clear hS0 hTr
            obtain ⟨j, y, os, hj, rfl, hyj, hS, hTr⟩ := hrel
            obtain rfl : y = (j : Int) := hyj
            by_cases hlj : j + 1 < n + k + 1
            · have hTd := hTr.drew
              have c0 := own_int hTd.own j (by omega)
              have c1 := own_int hTd.own (j + 1) (by omega)
              have f1 := hTd.own.frozenAt (j + 1)
              have bb := rsb.out i j os hS.out
              have hN := mkHid (rss.out i j os hS.out hlj)
              have hT1 := hTd.store (j + 1) (os.getD (j + 1) 0 + os.getD j 0 / 10)
              have hol : os.length = n + k + 1 := rsl.out i j os hS.out
              have d0 := own_int hT1.own j (by omega)
              rw [getD_set _ _ _ _ (by omega), if_neg (by omega)] at d0
              have g0 := hT1.own.frozenAt j
              have hst := mkHid (hT1.store j (os.getD j 0 % 10))
              clear rss rsl rsb rsp hS hTr hTd hT1 hol
              generalize os.getD j 0 = o0 at *
              generalize os.getD (j + 1) 0 = o1 at *
              generalize (os.set (j + 1) (o1 + o0 / 10)).set j (o0 % 10) = os2 at *
              have u0 : o0.tdiv 10 = o0 / 10 := Int.tdiv_eq_ediv_of_nonneg bb.1.1
              have u1 : IntKind.i64.wrap (o0 / 10) = o0 / 10 := IntWalk.i64_in _ (by omega)
              have u2 : IntKind.i64.wrap (o1 + o0 / 10) = o1 + o0 / 10 := IntWalk.i64_in _ (by omega)
              have u3 : IntKind.i64.wrap ((j : Int) + 1) = (j : Int) + 1 := IntWalk.i64_in _ (by omega)
              have u4 : ((j : Int) + 1).toNat = j + 1 := by omega
              have u5 : (0 : Int) ≤ (j : Int) + 1 := by omega
              have u6 : (j : Int) + 1 < (n : Int) + (k : Int) + 1 := by omega
              have u8 : (j : Int) < (n : Int) + (k : Int) + 1 := by omega
              have v1 := bb.1.1; have v2 := bb.1.2; have v3 := bb.2.1; have v4 := bb.2.2
              clear bb
              go_wp2_with fail
              refine wp_region_still_tail 15 (by kernel_rfl) (by kernel_rfl) ?_
              change wpStill _ _ wr.drew (fun a' => wpList _ _ _ _ a' wr.drew) _ _
              generalize wr.drew = wd at *
              simp only [List.take_succ_cons, List.take_zero, List.drop_succ_cons, List.drop_zero]
              repeat still_step
              refine wpStill_nil ?_
              clear u3 u4 u0 u1 u2
              go_wp2
              go_roundw
              case rel => exact ⟨j + 1, _, _, by omega, rfl, by omega, hN, hst.out⟩
              case measure => simp [intOf]; omega
            · obtain rfl : j = n + k := by omega
              have hP1 := mkHid (rsp.out i _ os hlt hS.out rfl)
              clear rss rsl rsb rsp hS
              go_wp2
              go_roundw
              case rel => exact ⟨i + 1, _, os, by omega, rfl, by omega, hP1, hTr⟩
              case measure => simp [intOf]; omega
    · obtain rfl : i = n := by omega
      obtain ⟨q1, q2, q3⟩ := rpf.out os hP.out
      have hL := RowV.of_own hTr.own
      obtain ⟨A9, c9, e9, hc9, hl9⟩ := hL
      rw [q2] at e9 hc9
      injection e9 with e91 e92 e93
      subst e91 e93
      have C9 := CT.out (some ⟨G, 0, none⟩) (i + m + 1) os wr hl9 q1 (by omega) (by omega)
      rw [q2, q3] at C9
      have H9 := mkHid C9
      have a0 := hTr.a0; have b0 := hTr.b0
      clear C9 CT rpf q1 q2 q3 hl9 rqs rqq rqb rql rss rsl rsb rsp rpq rdA rdB bf bg hP
      go_wp2_with fail
      refine H9.out.mono ?_; rintro e w2 ⟨⟨v1, rfl, hN⟩, hb2⟩
      obtain ⟨A1, c1, n1, rfl⟩ := hN.open_
      have t_r := Two.later hb2 hTr.r
      have hbel := hTr.bel
      generalize decide (sg (s != t) z < 0) = s1 at *
      have x0 := t_r.1; have x1 := t_r.2.1; have y0 := t_r.2.2.1; have y1 := t_r.2.2.2
      clear H9 hTr t_r
      go_wp2
      refine bodyPost_ret (v := .agg #[.bool s1, .slice A1 n1 c1]) (by simp [results, Try.results24, go_sem, x0, x1]) rfl ⟨⟨_, rfl, hN.set x0 _ _⟩, ?_⟩
      exact bset (bset (bon hbel hb2) (by simp; omega) _) (by simp; omega) _
end Go.Proofs.Ytkgaoafcjhjefaa
