/-
  What 'CompactFunc' does with a row of names: the walk.
-/
import Derived.Test.YtaibmdikimpooaaDoorTmO
namespace Go.Proofs.YtaibmdikimpooaaDoor
open Go.RowKit

theorem Five.later {w w' : World} {g o : Nat} {x : Nm} (h : Five w g o x) (hb : Below w.heap.size w w') : Five w' g o x :=
  ⟨cell_later hb h.1, cell_later hb h.2.1, cell_later hb h.2.2.1, cell_later hb h.2.2.2.1, cell_later hb h.2.2.2.2⟩
theorem eq_same (x y : Nm) (w : World) : Calls Tryd.prog 39 #[.agg #[.string x.1, .int .i64 x.2, .string x.1, .int .i64 0, .slice none 0 0], .agg #[.string y.1, .int .i64 y.2, .string y.1, .int .i64 0, .slice none 0 0]] w fun e w' => e = .returned (.bool (decide (x = y))) ∧ Below w.heap.size w w' := by
  have := names2_any x y w
  have e : decide (cmpA x y = 0) = decide (x = y) := by rw [Bool.eq_iff_iff]; simp only [decide_eq_true_eq]; exact cmpA_zero x y
  rw [e] at this; exact this

theorem asgs_take (m : List Nm) (k : Nat) : (asgs m).take (k * 5) = asgs (m.take k) := by
  induction m generalizing k with
  | nil => simp [asgs]
  | cons x m ih =>
    cases k with
    | zero => simp [asgs]
    | succ k =>
      have e : asgs (x :: m) = asg x ++ asgs m := rfl
      have e2 : asgs ((x :: m).take (k + 1)) = asg x ++ asgs (m.take k) := rfl
      rw [e, e2, ← ih k, List.take_append]
      have : (asg x).length = 5 := rfl
      rw [List.take_of_length_le (by omega), this, show (k + 1) * 5 - 5 = k * 5 by omega]
theorem own_shrink {w : World} {base g n cap k : Nat} {xs : List Value} (h : w.ownsRow base 38 5 (.slice (some ⟨g, 0, none⟩) n cap) n xs) (hk : k ≤ n) : w.ownsRow base 38 5 (.slice (some ⟨g, 0, none⟩) k cap) k (xs.take (k * 5)) := by
  obtain ⟨h1, h2⟩ := h
  refine ⟨by rw [List.length_take]; omega, ?_⟩
  rcases h2 with ⟨e, -⟩ | ⟨g', cap', cur, e, hb, hg, hc, hm, hs, ht⟩
  · cases e
  · simp only [Value.slice.injEq, Option.some.injEq, Addr.mk.injEq, and_true, true_and] at e
    obtain ⟨rfl, rfl⟩ := e
    refine .inr ⟨_, _, cur, rfl, hb, hg, by omega, hm, hs, ?_⟩
    rw [← ht, List.take_take]
    congr 1
    omega
theorem own_stores {base g n cap k : Nat} : ∀ (zs : List Value) (i : Nat) (w : World) (xs : List Value), k * 5 ≤ i → w.ownsRow base 38 5 (.slice (some ⟨g, 0, none⟩) n cap) n xs → ∃ ys, (w.setCells g i zs).ownsRow base 38 5 (.slice (some ⟨g, 0, none⟩) n cap) n ys ∧ ys.take (k * 5) = xs.take (k * 5) ∧ But g w (w.setCells g i zs)
  | [], i, w, xs, _, h => ⟨xs, h, rfl, But.refl g w⟩
  | z :: zs, i, w, xs, hi, h => by
    obtain ⟨ys, h1, h2, h3⟩ := own_stores (k := k) zs (i + 1) (w.setCell ⟨g, i, none⟩ z) (xs.set i z) (by omega) (h.stored i z).1
    refine ⟨ys, h1, ?_, ((But.refl g w).set (.inl rfl) z).trans h3⟩
    rw [h2]
    apply List.ext_getElem?
    intro q
    rw [List.getElem?_take, List.getElem?_take]
    split
    · rw [List.getElem?_set_ne (by omega)]
    · rfl
def zeroA : Value := .agg #[.string ⟨#[]⟩, .int .i64 0, .string ⟨#[]⟩, .int .i64 0, .slice none 0 0]
theorem zeros_one (n : Nat) : ∀ v ∈ (Builtin.zeroCells zeroA.cells n).toList, v.oneCell' = true := by
  intro v hv
  simp only [Builtin.zeroCells, Array.toList_map, List.mem_map] at hv
  obtain ⟨i, -, rfl⟩ := hv
  have hsz : zeroA.cells.size = 5 := rfl
  rw [hsz]
  have : i % 5 < 5 := Nat.mod_lt _ (by omega)
  generalize i % 5 = j at *
  have : ∀ j, j < 5 → (zeroA.cells[j]!).oneCell' = true := by decide
  exact this j ‹_›
theorem run_clear_five (w : World) (ty : TypeId) (b o n c : Nat) (hn : 0 < n) (hc : ∀ j, j < n * 5 → (w.cell? ⟨b, o + j, none⟩).isSome = true) (hf : ∀ j, j < n * 5 → w.frozen? ⟨b, o + j, none⟩ = false) :
    (Builtin.clear_ #[31] ty #[.slice (some ⟨b, o, none⟩) n c]).run Tryd.prog w = .ok (.tuple #[]) (w.setCells b o (Builtin.zeroCells zeroA.cells n).toList) := by
  have hl : (Builtin.zeroCells zeroA.cells n).toList.length = n * 5 := by simp [Builtin.zeroCells]; rfl
  have hst := run_storeCells_cells (P := Tryd.prog) b o (Builtin.zeroCells zeroA.cells n).toList 0 w (by rw [hl]; simpa using hc) (by rw [hl]; simpa using hf) (zeros_one n)
  simp only [Nat.add_zero] at hst
  obtain ⟨m, rfl⟩ : ∃ m, n = m + 1 := ⟨n - 1, by omega⟩
  unfold zeroA at hst ⊢
  simp [Builtin.clear_, run_underlying Tryd.underlying31, hst]

/-- the state of the inner loop: J have been looked at -/
structure CRo (w0 : World) (base g n cap J kk : Nat) (l m : List Nm) (w : World) : Prop where
  but : But g w0 w
  own : w.ownsRow base 38 5 (.slice (some ⟨g, 0, none⟩) n cap) n (asgs m)
  len : m.length = n
  head : m.take kk = ddN l J
  cnt : kk = (ddN l J).length
  less : kk < J
  tail : ∀ t, J ≤ t + 1 → m.getD t noNm = l.getD t noNm
theorem take_set_snoc (m : List Nm) (k : Nat) (y : Nm) (hk : k < m.length) : (m.set k y).take (k + 1) = m.take k ++ [y] := by
  rw [List.take_succ_eq_append_getElem (by simpa using hk)]
  simp [List.take_set_of_le]

set_option maxHeartbeats 8000000 in
set_option maxRecDepth 100000 in
theorem compact_any (l : List Nm) (g n cap base : Nat) (w : World) (ho : w.ownsRow base 38 5 (.slice (some ⟨g, 0, none⟩) n cap) n (asgs l)) (hl : l.length = n) (h2 : 2 ≤ n) (hn : n ≤ 2000) (hcap : n ≤ cap) (hcm : cap ≤ maxLen) :
    Calls Tryd.prog 38 #[.slice (some ⟨g, 0, none⟩) n cap, .func (.func 39) #[] #[]] w fun e w' =>
      e = .returned (.slice (some ⟨g, 0, none⟩) (ddN l n).length cap) ∧ w'.ownsRow base 38 5 (.slice (some ⟨g, 0, none⟩) (ddN l n).length cap) (ddN l n).length (asgs (ddN l n)) ∧ But g w w' := by
  unfold maxLen at hcm
  have EQ := mkHid eq_same
  have HO := mkHid ho
  have HL := mkHid hl
  clear ho hl
  have hn2 : ¬ (n : Int) < 2 := by omega
  go_enter Tryd.func38, Tryd.ntmps38
  go_wp2
  go_loopw [5] (fun i w' => ∃ (j : Nat) (x : Int), i = .int .i64 x ∧ x = (j : Int) + 1 ∧ j + 1 ≤ n ∧ ddN l (j + 1) = l.take (j + 1) ∧ Below w.heap.size w w') (fun i _ => (n - intOf i).toNat)
  case atStart => exact ⟨0, 1, rfl, rfl, by omega, ddN_take l 0 (by rw [HL.out]; omega) rfl (by simp), Below.refl _ _⟩
  case round =>
    obtain ⟨j, x, rfl, hxk, hj, hdd, hb⟩ := hrel
    obtain rfl : x = (j : Int) + 1 := hxk
    have HD := mkHid hdd
    clear hdd
    by_cases hlt : j + 1 < n
    · have hlt' : (j : Int) + 1 < (n : Int) := by omega
      have t1 : ((j : Int) + 1).toNat = j + 1 := by omega
      have t2 : (0 : Int) ≤ (j : Int) + 1 := by omega
      have t3 : (j : Int) < (n : Int) := by omega
      have t4 : j < n := by omega
      have W1 : IntKind.i64.wrap (j : Int) = (j : Int) := IntWalk.i64_in _ (by omega)
      have HOr := own_later HO.out hb
      have v1 := own_five HOr HL.out (j + 1) hlt
      have v0 := own_five HOr HL.out j t4
      have EQ1 := mkHid (EQ.out (l.getD (j + 1) noNm) (l.getD j noNm) wr.drew)
      have SAME : Hid (l.getD (j + 1) noNm = l.getD j noNm → ∀ i, j + 1 < i → (ddN l i).length < i) := fun h => ddN_less l (k := j + 1) (by omega) h
      have DIFF : Hid (l.getD (j + 1) noNm ≠ l.getD j noNm → ddN l (j + 1 + 1) = l.take (j + 1 + 1)) := fun h => ddN_take l (j + 1) (by rw [HL.out]; exact hlt) HD.out (fun hh => h hh.2)
      have SAMD : Hid (l.getD (j + 1) noNm = l.getD j noNm → ddN l (j + 1 + 1) = l.take (j + 1)) := fun h => by
        show (if 0 < j + 1 ∧ l.getD (j + 1) noNm = l.getD j noNm then ddN l (j + 1) else _) = _
        rw [if_pos ⟨by omega, h⟩]; exact HD.out
      generalize l.getD (j + 1) noNm = a1 at *
      generalize l.getD j noNm = a0 at *
      go_wp2_with fail
      obtain ⟨y0, y1, y2, y3, y4⟩ : Five wr.drew g ((j + 1) * 5) a1 := v1
      obtain ⟨z0, z1, z2, z3, z4⟩ : Five wr.drew g (j * 5) a0 := v0
      have hbd := bdrew hb
      refine wp_region_still_tail 10 (by kernel_rfl) (by kernel_rfl) ?_
      change wpStill _ _ wr.drew (fun a' => wpList _ _ _ _ a' wr.drew) _ _
      generalize wr.drew = wd at *
      simp only [List.take_succ_cons, List.take_zero, List.drop_succ_cons, List.drop_zero]
      repeat still_step
      refine wpStill_nil ?_
      clear y0 y1 y2 y3 y4 z0 z1 z2 z3 z4 HOr W1
      by_cases hq : a1 = a0
      · have S1 := mkHid (SAME.out hq)
        have S2 := mkHid (SAMD.out hq)
        rw [decide_eq_true hq] at EQ1
        clear SAME SAMD DIFF hq
        go_wp2_with (go_at_call 39; ((with_reducible refine EQ1.out.mono ?_)); rintro e w1 ⟨rfl, hb1⟩)
        have R0 : CRo w base g n cap (j + 1 + 1) (j + 1) l l w1 := by
          have bb := bon hbd hb1
          exact ⟨But.of bb, own_later HO.out bb, HL.out, S2.out.symm, by rw [S2.out, List.length_take, HL.out]; omega, by omega, fun _ _ => rfl⟩
        clear EQ1 hbd hb1 hb S2 HD HO
        go_loopw [5, 7] (fun s5 s7 w' => ∃ (i kk : Nat) (x y : Int) (m : List Nm), s7 = .int .i64 x ∧ x = (i : Int) + 1 ∧ s5 = .int .i64 y ∧ y = kk ∧ j + 1 + 1 + i ≤ n ∧ CRo w base g n cap (j + 1 + 1 + i) kk l m w') (fun _ s7 _ => (n - intOf s7).toNat)
        case atStart => exact ⟨0, j + 1, 1, _, l, rfl, rfl, rfl, by omega, by omega, R0⟩
        case round =>
          clear R0
          obtain ⟨i, kk, x, y, m, rfl, hx, rfl, hy, hJ, R⟩ := hrel
          obtain rfl : x = (i : Int) + 1 := hx
          obtain rfl : y = (kk : Int) := hy
          have hless := R.less
          by_cases hin : j + 1 + 1 + i < n
          · have d1 : (i : Int) + 1 < ((n - (j + 1) : Nat) : Int) := by omega
            have d2 : ((i : Int) + 1).toNat = i + 1 := by omega
            have d3 : (0 : Int) ≤ (i : Int) + 1 := by omega
            have d4 : (i : Int) < ((n - (j + 1) : Nat) : Int) := by omega
            have d5 : i < n - (j + 1) := by omega
            have d6 : i + 1 < n - (j + 1) := by omega
            have V1 : IntKind.i64.wrap (i : Int) = (i : Int) := IntWalk.i64_in _ (by omega)
            have own := R.own
            have p1 := own_five own R.len (j + 1 + 1 + i) hin
            have p0 := own_five own R.len (j + 1 + i) (by omega)
            have pk := own_five own R.len kk (by omega)
            rw [R.tail _ (by omega), show (j + 1 + 1 + i) * 5 = (j + 1) * 5 + (i + 1) * 5 by omega] at p1
            rw [R.tail _ (by omega), show (j + 1 + i) * 5 = (j + 1) * 5 + i * 5 by omega] at p0
            have EQ2 := mkHid (EQ.out (l.getD (j + 1 + 1 + i) noNm) (l.getD (j + 1 + i) noNm) wr.drew)
            have NX : Hid (ddN l (j + 1 + 1 + i + 1) = if 0 < j + 1 + 1 + i ∧ l.getD (j + 1 + 1 + i) noNm = l.getD (j + 1 + 1 + i - 1) noNm then ddN l (j + 1 + 1 + i) else ddN l (j + 1 + 1 + i) ++ [l.getD (j + 1 + 1 + i) noNm]) := rfl
            rw [show j + 1 + 1 + i - 1 = j + 1 + i by omega] at NX
            generalize l.getD (j + 1 + 1 + i) noNm = b1 at *
            generalize l.getD (j + 1 + i) noNm = b0 at *
            generalize m.getD kk noNm = bk at *
            have RH := mkHid R
            clear R own
            go_wp2_with fail
            have q1 : Five wr.drew g ((j + 1) * 5 + (i + 1) * 5) b1 := p1
            have q0 : Five wr.drew g ((j + 1) * 5 + i * 5) b0 := p0
            have qk : Five wr.drew g (kk * 5) bk := pk
            have hbd : Below wr.heap.size wr wr.drew := bdrew (Below.refl _ _)
            have HQ1 := mkHid q1
            have HQK := mkHid qk
            obtain ⟨y0, y1, y2, y3, y4⟩ := q1
            obtain ⟨z0, z1, z2, z3, z4⟩ := q0
            refine wp_region_still_tail 10 (by kernel_rfl) (by kernel_rfl) ?_
            change wpStill _ _ wr.drew (fun a' => wpList _ _ _ _ a' wr.drew) _ _
            generalize wr.drew = wd at *
            simp only [List.take_succ_cons, List.take_zero, List.drop_succ_cons, List.drop_zero]
            repeat still_step
            refine wpStill_nil ?_
            clear y0 y1 y2 y3 y4 z0 z1 z2 z3 z4 V1
            by_cases hq : b1 = b0
            · rw [if_pos ⟨by omega, hq⟩] at NX
              rw [decide_eq_true hq] at EQ2
              clear hq
              go_wp2_with (go_at_call 39; ((with_reducible refine EQ2.out.mono ?_)); rintro e w1 ⟨rfl, hb1⟩)
              go_roundw
              case rel =>
                have R := RH.out
                have bb := bon hbd hb1
                exact ⟨i + 1, kk, _, _, m, rfl, by omega, rfl, rfl, by omega, ⟨R.but.trans (But.of bb), own_later R.own bb, R.len, by rw [← Nat.add_assoc, NX.out]; exact R.head, by rw [← Nat.add_assoc, NX.out]; exact R.cnt, by omega, fun t ht => R.tail t (by omega)⟩⟩
              case measure => simp [intOf]; omega
            · rw [if_neg (fun h => hq h.2)] at NX
              rw [decide_eq_false hq] at EQ2
              clear hq
              have k1 : (kk : Int) < (n : Int) := by omega
              have k2 : kk < n := by omega
              go_wp2_with (go_at_call 39; ((with_reducible refine EQ2.out.mono ?_)); rintro e w1 ⟨rfl, hb1⟩; obtain ⟨y0, y1, y2, y3, y4⟩ := HQ1.out.later hb1; obtain ⟨z0, z1, z2, z3, z4⟩ := HQK.out.later hb1; have fz := (own_later RH.out.own (bon hbd hb1)).frozenAt (kk * 5); have fz1 := (own_later RH.out.own (bon hbd hb1)).frozenAt (kk * 5 + 1); have fz2 := (own_later RH.out.own (bon hbd hb1)).frozenAt (kk * 5 + 2); have fz3 := (own_later RH.out.own (bon hbd hb1)).frozenAt (kk * 5 + 3); have fz4 := (own_later RH.out.own (bon hbd hb1)).frozenAt (kk * 5 + 4))
              go_roundw
              case rel =>
                have R := RH.out
                have bb := bon hbd hb1
                refine ⟨i + 1, kk + 1, _, _, m.set kk b1, rfl, by omega, rfl, by omega, by omega, ⟨(((((R.but.trans (But.of bb)).set (.inl rfl) _).set (.inl rfl) _).set (.inl rfl) _).set (.inl rfl) _).set (.inl rfl) _, own_store (own_later R.own bb) R.len kk k2 b1, by simp [R.len], ?_, ?_, by omega, fun t ht => ?_⟩⟩
                · rw [← Nat.add_assoc, NX.out, take_set_snoc m kk b1 (by rw [R.len]; exact k2), R.head]
                · rw [← Nat.add_assoc, NX.out, List.length_append, ← R.cnt]; rfl
                · rw [← R.tail t (by omega), List.getD_eq_getElem?_getD, List.getD_eq_getElem?_getD, List.getElem?_set_ne (by omega)]
              case measure => simp [intOf]; omega
          · have hJn : j + 1 + 1 + i = n := by omega
            have e1 := R.cnt
            have e2 := R.head
            rw [hJn] at e1 e2
            have E1 := mkHid e1.symm
            have E2 := mkHid e2
            have k1 : (kk : Int) ≤ (n : Int) := by omega
            have k2 : kk < n := by omega
            have k3 : kk ≤ cap := by omega
            have k4 : ¬ cap = kk := by omega
            have k5 : ¬ kk = cap := by omega
            have k6 : (kk : Int) ≤ (cap : Int) := by omega
            have d1 : ¬ (i : Int) + 1 < ((n - (j + 1) : Nat) : Int) := by omega
            have own := R.own
            have hcl : ∀ ty, (Builtin.clear_ #[31] ty #[.slice (some ⟨g, kk * 5, none⟩) (n - kk) (cap - kk)]).run Tryd.prog wr = .ok (.tuple #[]) (wr.setCells g (kk * 5) (Builtin.zeroCells zeroA.cells (n - kk)).toList) := fun ty =>
              run_clear_five wr ty g (kk * 5) (n - kk) (cap - kk) (by omega) (fun q hq => by rw [own.cellAt _ (by omega), List.getElem?_eq_getElem (by rw [own.1]; omega)]; rfl) (fun q _ => own.frozenAt _)
            obtain ⟨ys, o1, o2, o3⟩ := own_stores (k := kk) (Builtin.zeroCells zeroA.cells (n - kk)).toList (kk * 5) wr (asgs m) (Nat.le_refl _) own
            have o4 := own_shrink o1 (k := kk) (by omega)
            rw [o2, asgs_take, E2.out] at o4
            have O4 := mkHid o4
            have O5 := mkHid (R.but.trans o3)
            clear e1 e2 own o1 o2 o3 o4 R hJn
            generalize hzs : (Builtin.zeroCells zeroA.cells (n - kk)).toList = zs at *
            clear hzs
            generalize hws : wr.setCells g (kk * 5) zs = ws at *
            go_wp2
            go_ret
            rw [E1.out]
            exact ⟨rfl, O4.out, O5.out⟩
      · have S3 := mkHid (DIFF.out hq)
        rw [decide_eq_false hq] at EQ1
        clear SAME SAMD DIFF hq
        go_wp2_with (go_at_call 39; ((with_reducible refine EQ1.out.mono ?_)); rintro e w1 ⟨rfl, hb1⟩)
        go_roundw
        case rel => exact ⟨j + 1, _, rfl, by omega, by omega, S3.out, bon hbd hb1⟩
        case measure => simp [intOf]; omega
    · have e : j + 1 = n := by omega
      have E1 : ddN l n = l := by rw [← e, HD.out, List.take_of_length_le (by rw [HL.out]; omega)]
      have E2 := mkHid E1
      clear E1
      go_wp2
      go_ret
      rw [E2.out, HL.out]
      exact ⟨rfl, own_later HO.out hb, But.of hb⟩
end Go.Proofs.YtaibmdikimpooaaDoor
