/-
  A copy of a term: 'copied' of package cnf.
-/
import Derived.Test.YtaiachmolkjedaaDoorCnD
import Derived.Deep.RegionHeld2
namespace Go.Proofs.YtaiachmolkjedaaDoor
open Go.RowKit

theorem CL.start {w W3 : World} {t : Tm} {a' : Option Addr} {c' : Nat} (hb : Below (cpW t w).heap.size (cpW t w) W3) (hrow : (a' = none ∧ t.ks.length = 0) ∨ ∃ R, a' = some ⟨R, 0, none⟩ ∧ W3.ownsRow (cpW t w).heap.size 24 4 (.slice (some ⟨R, 0, none⟩) t.ks.length c') t.ks.length (t.ks.flatMap tm4)) :
    CL w t a' c' [] (W3.setCell ⟨w.heap.size, 3, none⟩ (.slice a' t.ks.length c')) := by
  have hb2 : Below w.heap.size w (cpW t w) := bal (bal (Below.refl _ _) _) _
  have F2 : FourV' (cpW t w) w.heap.size (.int .i64 t.op) (.string t.nm) (.int .i64 t.n) (.slice t.a t.ks.length t.c) := by simp [FourV', cpW, boxT, go_sem]
  have FR : FourV' (cpW t w) (w.heap.size + 1) (.int .i64 0) (.string ⟨#[]⟩) (.int .i64 0) (.slice none 0 0) := by simp [FourV', cpW, boxT, go_sem]
  have hX2 : (cpW t w).heap.size = w.heap.size + 1 + 1 := by simp [cpW]
  refine ⟨bset (bon hb2 hb) (p := ⟨w.heap.size, 3, none⟩) (by show w.heap.size ≤ w.heap.size; omega) _, (F2.later hb).put3' _, (FR.later hb).far (p := ⟨w.heap.size, 3, none⟩) (by show w.heap.size ≠ w.heap.size + 1; omega) _, fun h0 => ?_, fun x hx => (by cases hx), fun x hx => (by cases hx), fun x hx => (by cases hx)⟩
  rcases hrow with ⟨-, h⟩ | ⟨R, e, ho⟩
  · omega
  · refine ⟨R, e, ?_⟩
    rw [hX2] at ho
    simpa using own_far' (p := ⟨w.heap.size, 3, none⟩) ho (by show w.heap.size < _; omega) (.slice a' t.ks.length c')
theorem cellOff {w : World} {b i R j : Nat} {x u : Value} (h : w.cell? ⟨b, i, none⟩ = some x) (hne : ¬ b = R) : (w.setCell ⟨R, j, none⟩ u).cell? ⟨b, i, none⟩ = some x := by
  rw [World.cell?_of_block (w := w) (Below.heap_setCell w ⟨R, j, none⟩ u b hne)]; exact h
theorem cellOff4 {w : World} {b i R j0 j1 j2 j3 : Nat} {x u0 u1 u2 u3 : Value} (h : w.cell? ⟨b, i, none⟩ = some x) (hne : ¬ b = R) : ((((w.setCell ⟨R, j0, none⟩ u0).setCell ⟨R, j1, none⟩ u1).setCell ⟨R, j2, none⟩ u2).setCell ⟨R, j3, none⟩ u3).cell? ⟨b, i, none⟩ = some x :=
  cellOff (cellOff (cellOff (cellOff h hne) hne) hne) hne
theorem CL.there {w w' : World} {t : Tm} {R c' : Nat} {l : List Tm} (h : CL w t (some ⟨R, 0, none⟩) c' l w') (i : Nat) (hi : i < t.ks.length * 4) : ∃ u, w'.cell? ⟨R, i, none⟩ = some u ∧ w'.frozen? ⟨R, i, none⟩ = false := by
  obtain ⟨R', e, ho⟩ := h.row (by omega)
  simp only [Option.some.injEq, Addr.mk.injEq, and_true] at e
  subst e
  refine ⟨_, (ho.cellAt i (by omega)).trans (List.getElem?_eq_getElem (by rw [ho.1]; exact hi)), ho.frozenAt i⟩
set_option maxRecDepth 100000 in
set_option maxHeartbeats 4000000 in
theorem ccopied_any (t : Tm) : ∀ w : World, TIn w w.heap.size t → t.size ≤ 2000 → Calls Tryd.prog 87 #[t.val] w (CopyT t w) := by
  induction t using Tm.ind with
  | h t ih =>
  intro w hin hz
  have hsz := Tm.size_eq t
  have hkl : t.ks.length ≤ 2000 := by
    have := len_sizes t.ks
    omega
  have hb2 : Below w.heap.size w (cpW t w) := bal (bal (Below.refl _ _) _) _
  have HCL := mkHid (fun a' c' W3 hb hr => CL.start (w := w) (W3 := W3) (t := t) (a' := a') (c' := c') hb hr)
  have F2 : Four (cpW t w) w.heap.size 0 t := (box_four w t).later (bel_alloc _ _)
  have f2 : (cpW t w).frozen? ⟨w.heap.size, 3, none⟩ = false := by simp [cpW, boxT, go_sem]
  have HK := mkHid (clone_any t (cpW t w) (hin.later hb2) hkl)
  have HIN := mkHid hin
  have IH := mkHid ih
  have HZ := mkHid hz
  have hW2 : (w.alloc (.cells #[.int .i64 t.op, .string t.nm, .int .i64 t.n, .slice t.a t.ks.length t.c] 24)).alloc (.cells #[.int .i64 0, .string ⟨#[]⟩, .int .i64 0, .slice none 0 0] 24) = cpW t w := rfl
  clear hin ih hz
  generalize cpW t w = W2 at *
  unfold CloP at HK
  unfold Tm.val
  obtain ⟨n, hn⟩ : ∃ n, t.ks.length = n := ⟨_, rfl⟩
  have HN := mkHid hn
  rw [hn] at hkl HK HCL hW2 ⊢
  have F2' := F2
  obtain ⟨a0, a1, a2, a3⟩ := F2
  simp only [Nat.zero_add] at a1 a2 a3
  rw [hn] at a3
  clear hn
  have hn9 : n ≤ 9223372036854775807 := by omega
  go_enter Tryd.func87, Tryd.ntmps87
  go_wp2_with (go_at_call 107; ((with_reducible refine HK.out.mono ?_)); rintro e W3 ⟨a', c', rfl, hb3, hc1, hc2, hrow⟩; have x3 := cell_later hb3 a3; have y3 := frozen_later hb3 a3 f2)
  have C0 := HCL.out a' c' W3 hb3 hrow
  have C1 := mkHid C0
  have HB := mkHid C0.bel
  have HAF : Hid (∀ p, a' = some p → w.heap.size ≤ p.block) := by
    intro p hp
    rcases hrow with ⟨h, -⟩ | ⟨R, h, ho⟩
    · rw [h] at hp; cases hp
    · rw [h] at hp
      obtain rfl := Option.some.inj hp
      have h7 : W2.heap.size ≤ R := (own_lt ho rfl).1
      exact Nat.le_trans hb2.size h7
  clear x3 y3 a0 a1 a2 a3 F2' f2 hW2 hrow hb3 HCL HK C0 hb2
  generalize W3.setCell ⟨w.heap.size, 3, none⟩ (.slice a' n c') = W4 at *
  have x3 := C1.out.bt.2.2.2.1
  rw [HN.out] at x3
  go_wp2
  go_loopw [12] (fun i w' => ∃ (k : Nat) (x : Int), i = .int .i64 x ∧ x = k ∧ k ≤ n ∧ ∃ l, CL w t a' c' l w' ∧ l.map Tm.er = (t.ks.take k).map Tm.er) (fun i _ => (n - intOf i).toNat)
  case atStart => exact ⟨0, 0, rfl, rfl, Nat.zero_le _, [], C1.out, by simp⟩
  case round =>
    obtain ⟨k, x, rfl, hxk, hk, l, c, hl⟩ := hrel
    obtain rfl : x = (k : Int) := hxk
    have hll : l.length = k := by have := congrArg List.length hl; simpa [HN.out, Nat.min_eq_left hk] using this
    clear x3
    by_cases hlt : k < n
    · have hk' : k < t.ks.length := by rw [HN.out]; exact hlt
      obtain ⟨R, rfl, ho⟩ := c.row (by omega)
      have kin := (kid_in HIN.out (List.getElem_mem hk')).later c.bel
      have hRw : w.heap.size + 1 + 1 ≤ R := (own_lt ho rfl).1
      have hkl2 : k < (l ++ t.ks.drop l.length).length := by simp; omega
      have kf := own_four ho k hkl2
      have eK : (l ++ t.ks.drop l.length)[k] = t.ks[k] := by
        rw [List.getElem_append_right (by omega)]
        simp [hll]
      rw [eK] at kf
      have hks : t.ks[k].size ≤ 2000 := by
        have h1 := sizes_take_le t.ks (k + 1)
        rw [take_succ_sizes t.ks k hk'] at h1
        have := HZ.out
        omega
      have hRl : R < wr.heap.size := (own_lt ho rfl).2
      have bN := bel_alloc wr (boxT t.ks[k])
      have HC := mkHid (IH.out t.ks[k] (List.getElem_mem _) (wr.alloc (boxT t.ks[k])).drew (kin.later (bdrew bN)) hks)
      have HCN := mkHid (c.later (bdrew bN))
      have HT := mkHid (List.take_succ_eq_append_getElem hk')
      have F4 := box_four wr t.ks[k]
      generalize t.ks[k] = q at *
      clear kin hk' hks eK hkl2 ho
      obtain ⟨g0, g1, g2, g3⟩ := kf
      have hW5 : wr.alloc (.cells #[.int .i64 q.op, .string q.nm, .int .i64 q.n, .slice q.a q.ks.length q.c] 24) = wr.alloc (boxT q) := rfl
      have x3 := cell_later bN c.bt.2.2.2.1
      rw [HN.out] at x3
      have hzr : w.heap.size + 1 + 1 ≤ (wr.alloc (boxT q)).heap.size := by have := bN.size; omega
      have hRz : R < (wr.alloc (boxT q)).heap.size := by have := bN.size; omega
      have hne : ¬ w.heap.size = R := by omega
      have hne2 : ¬ wr.heap.size = R := by omega
      unfold Tm.val at HC
      clear c bN
      generalize wr.alloc (boxT q) = W5 at *
      obtain ⟨f0, f1, f2, f3⟩ := F4
      simp only [Nat.zero_add] at f1 f2 f3
      have hk2 : (k : Int) < (n : Int) := by omega
      go_wp2_with fail
      go_region_held2 (fun w' => w'.cell? ⟨w.heap.size, 3, none⟩ = some (.slice (some ⟨R, 0, none⟩) n c') ∧ w'.cell? ⟨wr.heap.size, 0, none⟩ = some (.int .i64 q.op) ∧ w'.cell? ⟨wr.heap.size, 1, none⟩ = some (.string q.nm) ∧ w'.cell? ⟨wr.heap.size, 2, none⟩ = some (.int .i64 q.n) ∧ w'.cell? ⟨wr.heap.size, 3, none⟩ = some (.slice q.a q.ks.length q.c)) (first | exact ⟨x3, f0, f1, f2, f3⟩ | exact ⟨cell_later (w := W5.drew) (by assumption) x3, cell_later (w := W5.drew) (by assumption) f0, cell_later (w := W5.drew) (by assumption) f1, cell_later (w := W5.drew) (by assumption) f2, cell_later (w := W5.drew) (by assumption) f3⟩ | exact ⟨cellOff4 (cell_later (w := W5.drew) hb6 x3) hne, cellOff4 (cell_later (w := W5.drew) hb6 f0) hne2, cellOff4 (cell_later (w := W5.drew) hb6 f1) hne2, cellOff4 (cell_later (w := W5.drew) hb6 f2) hne2, cellOff4 (cell_later (w := W5.drew) hb6 f3) hne2⟩) ((go_at_call 87; (with_reducible refine HC.out.mono ?_); rintro e w6 ⟨z, rfl, hz1, hz2, hz3, hb6⟩; have c6 := mkHid (HCN.out.later hb6); obtain ⟨e0, t0, s0⟩ := c6.out.there (k * 4) (by rw [HN.out]; omega); obtain ⟨e1, t1, s1⟩ := c6.out.there (k * 4 + 1) (by rw [HN.out]; omega); obtain ⟨e2, t2, s2⟩ := c6.out.there (k * 4 + 2) (by rw [HN.out]; omega); obtain ⟨e3, t3, s3⟩ := c6.out.there (k * 4 + 3) (by rw [HN.out]; omega); unfold Tm.val))
      have c7 := c6.out.store (by rw [HN.out]; omega) hz2 (hz3.mono hzr) (hz3.awR hRz)
      rw [hll] at c7
      have HC7 := mkHid c7
      go_wp2
      go_roundw
      case rel => exact ⟨k + 1, _, rfl, by omega, by omega, _, HC7.out, by rw [HT.out, List.map_append, List.map_append, hl]; simp [hz1]⟩
      case measure => simp [intOf]; omega
    · obtain rfl : k = n := by omega
      have HL : Hid (l.map Tm.er = t.ks.map Tm.er) := by
        show _ = _
        rw [hl, List.take_of_length_le (by rw [HN.out]; omega)]
      have HC := mkHid c
      obtain ⟨v0, v1, v2, v3, -, -, -, -⟩ := c.bt
      rw [HN.out] at v3
      obtain ⟨m0, m1, m2, m3, m4, m5, m6, m7⟩ := c.fr
      clear hl c
      go_wp2
      have hX : ∀ i, (⟨w.heap.size + 1, i, none⟩ : Addr).block < w.heap.size + 1 + 1 := fun i => by show w.heap.size + 1 < _; omega
      have hrow : ∀ R, a' = some ⟨R, 0, none⟩ → 0 < t.ks.length → w.heap.size + 1 + 1 ≤ R ∧ R < wr.heap.size := fun R e h0 => by
        obtain ⟨R', e', ho⟩ := HC.out.row h0
        rw [e] at e'
        simp only [Option.some.injEq, Addr.mk.injEq, and_true] at e'
        subst e'
        exact own_lt ho rfl
      have hsz5 : ((((wr.setCell ⟨w.heap.size + 1, 0, none⟩ (.int .i64 t.op)).setCell ⟨w.heap.size + 1, 1, none⟩ (.string t.nm)).setCell ⟨w.heap.size + 1, 2, none⟩ (.int .i64 t.n)).setCell ⟨w.heap.size + 1, 3, none⟩ (.slice a' k c')).heap.size = wr.heap.size := by simp
      have htin : ∀ y ∈ l, TIn ((((wr.setCell ⟨w.heap.size + 1, 0, none⟩ (.int .i64 t.op)).setCell ⟨w.heap.size + 1, 1, none⟩ (.string t.nm)).setCell ⟨w.heap.size + 1, 2, none⟩ (.int .i64 t.n)).setCell ⟨w.heap.size + 1, 3, none⟩ (.slice a' k c')) wr.heap.size y := fun y hy =>
        ((((HC.out.tin y hy).setFar (HC.out.tfr y hy) (hX 0) _).setFar (HC.out.tfr y hy) (hX 1) _).setFar (HC.out.tfr y hy) (hX 2) _).setFar (HC.out.tfr y hy) (hX 3) _
      have hbel : Below w.heap.size w ((((wr.setCell ⟨w.heap.size + 1, 0, none⟩ (.int .i64 t.op)).setCell ⟨w.heap.size + 1, 1, none⟩ (.string t.nm)).setCell ⟨w.heap.size + 1, 2, none⟩ (.int .i64 t.n)).setCell ⟨w.heap.size + 1, 3, none⟩ (.slice a' k c')) := bset (bset (bset (bset HC.out.bel (p := ⟨w.heap.size + 1, 0, none⟩) (by show w.heap.size ≤ w.heap.size + 1; omega) _) (p := ⟨w.heap.size + 1, 1, none⟩) (by show w.heap.size ≤ w.heap.size + 1; omega) _) (p := ⟨w.heap.size + 1, 2, none⟩) (by show w.heap.size ≤ w.heap.size + 1; omega) _) (p := ⟨w.heap.size + 1, 3, none⟩) (by show w.heap.size ≤ w.heap.size + 1; omega) _
      obtain ⟨ho, hn, hs, -, -⟩ := HIN.out.nums
      refine bodyPost_ret (v := .agg #[.int .i64 t.op, .string t.nm, .int .i64 t.n, .slice a' k c']) (by simp [results, Tryd.results87, go_sem, m0, m1, m2, m3]) rfl ⟨.node t.op t.nm t.n a' c' l, ?_, ?_, ?_, ?_, hbel⟩
      · simp only [Tm.val, Tm.op, Tm.nm, Tm.n, Tm.a, Tm.ks, Tm.c, hll]
      · rw [er_eq, er_eq t]
        simp only [Tm.op, Tm.nm, Tm.n, Tm.ks, HL.out]
      · rw [hsz5]
        refine .mk _ ho hn hs (by show l.length ≤ c'; omega) hc2 (fun j hj => ?_) htin
        have hj' : j < l.length := hj
        obtain ⟨R, e, hown⟩ := HC.out.row (by rw [HN.out]; omega)
        have h2 := own_lt hown rfl
        have hj2 : j < (l ++ t.ks.drop l.length).length := by rw [List.length_append]; omega
        have f := own_four hown j hj2
        rw [List.getElem_append_left hj'] at f
        refine ⟨R, 0, e, h2.2, ?_⟩
        have h21 : w.heap.size + 1 + 1 ≤ R := h2.1
        have hRX : ¬ R = w.heap.size + 1 := by omega
        rw [Nat.zero_add]
        exact ⟨cellOff4 f.1 hRX, cellOff4 f.2.1 hRX, cellOff4 f.2.2.1 hRX, cellOff4 f.2.2.2 hRX⟩
      · refine .mk _ (fun p hp => ?_) (fun y hy => (HC.out.tfr y hy).mono (by omega))
        exact HAF.out p hp
end Go.Proofs.YtaiachmolkjedaaDoor
