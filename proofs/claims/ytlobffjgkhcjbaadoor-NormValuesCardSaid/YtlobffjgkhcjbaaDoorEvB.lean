/-
  What 'copied', 'Get', 'named' and the small functions of package eval do.
-/
import Derived.Test.YtlobffjgkhcjbaaDoorEvA
import Derived.Deep.AppendLies
namespace Go.Proofs.YtlobffjgkhcjbaaDoor
open Go.RowKit

def bls (l : List Bool) : List Value := l.map Value.bool
theorem bls_len (l : List Bool) : (bls l).length = l.length := by simp [bls]
theorem bls_get (l : List Bool) (j : Nat) (h : j < l.length) : (bls l)[j]? = some (.bool l[j]) := by simp [bls, h]
theorem bls_one (l : List Bool) : ∀ u ∈ bls l, u.oneCell' = true := by
  intro u hu
  simp only [bls, List.mem_map] at hu
  obtain ⟨b, -, rfl⟩ := hu
  rfl
/-- a row of bools of one's own -/
abbrev Own (w : World) (base : Nat) (a : Option Addr) (c : Nat) (l : List Bool) : Prop := w.ownsRow base 4 1 (.slice a l.length c) l.length (bls l)
theorem Own.cap {w : World} {base c : Nat} {a : Option Addr} {l : List Bool} (h : Own w base a c l) : l.length ≤ c ∧ c ≤ maxLen := by
  rcases h.2 with ⟨e, h0⟩ | ⟨g, cap, cur, e, -, -, hc, hm, -, -⟩
  · simp only [Value.slice.injEq] at e
    exact ⟨by omega, by rw [e.2.2]; unfold maxLen; omega⟩
  · simp only [Value.slice.injEq, true_and] at e
    obtain ⟨-, rfl⟩ := e
    exact ⟨hc, hm⟩
theorem Own.some {w : World} {base c : Nat} {a : Option Addr} {l : List Bool} (h : Own w base a c l) (hl : 0 < l.length) : ∃ g, a = some ⟨g, 0, none⟩ ∧ base ≤ g ∧ g < w.heap.size := by
  obtain ⟨g, cap, hv, hb, hlt⟩ := World.ownsRow.form h hl
  simp only [Value.slice.injEq, true_and] at hv
  exact ⟨g, hv.1, hb, hlt⟩
theorem Own.bin {w : World} {base c : Nat} {a : Option Addr} {l : List Bool} (h : Own w base a c l) : BIn w w.heap.size a l := fun j hj => by
  obtain ⟨g, rfl, hb, hlt⟩ := Own.some h (by omega)
  refine ⟨g, 0, rfl, hlt, ?_⟩
  rw [Nat.zero_add, World.ownsRow.cellAt h j (by omega)]
  exact bls_get l j hj
theorem add_off (b o j : Nat) : (⟨b, o, none⟩ : Addr).add j = ⟨b, o + j, none⟩ := by
  unfold Addr.add; split <;> simp_all

def zeroV : Value := .agg #[.int .i64 0, .int .i64 0, .bool false, .slice none 0 0]
/-- the cells of a value in a box that may be written -/
def FourV (w : World) (b : Nat) (x y z u : Value) : Prop := w.cell? ⟨b, 0, none⟩ = some x ∧ w.cell? ⟨b, 1, none⟩ = some y ∧ w.cell? ⟨b, 2, none⟩ = some z ∧ w.cell? ⟨b, 3, none⟩ = some u ∧ w.frozen? ⟨b, 0, none⟩ = false ∧ w.frozen? ⟨b, 1, none⟩ = false ∧ w.frozen? ⟨b, 2, none⟩ = false ∧ w.frozen? ⟨b, 3, none⟩ = false
theorem FourV.later {w w1 : World} {b : Nat} {x y z u : Value} (h : FourV w b x y z u) (hb : Below w.heap.size w w1) : FourV w1 b x y z u :=
  ⟨cell_later hb h.1, cell_later hb h.2.1, cell_later hb h.2.2.1, cell_later hb h.2.2.2.1, frozen_later hb h.1 h.2.2.2.2.1, frozen_later hb h.2.1 h.2.2.2.2.2.1, frozen_later hb h.2.2.1 h.2.2.2.2.2.2.1, frozen_later hb h.2.2.2.1 h.2.2.2.2.2.2.2⟩

theorem grown_below {w w' : World} {r : Option Nat} (hg : w.grownBy w' r) (hr : ∀ g, r = some g → w.heap.size ≤ g) : Below w.heap.size w w' :=
  ⟨hg.os, hg.tape, hg.output, hg.size, fun k hk => hg.block k hk (fun e => by have := hr k e.symm; omega)⟩
theorem own_put {w : World} {base e s n : Nat} {v : Value} {xs : List Value} (h : w.ownsRow base e s v n xs) {p : Addr} (hp : p.block < base) (u : Value) : (w.setCell p u).ownsRow base e s v n xs := by
  refine ⟨h.1, ?_⟩
  rcases h.2 with h0 | ⟨g, cap, cur, hv, hbg, hg, hr⟩
  · exact .inl h0
  · exact .inr ⟨g, cap, cur, hv, hbg, by rw [Below.heap_setCell w p u g (by omega)]; exact hg, hr⟩
theorem own_base {w : World} {base base' e s n : Nat} {v : Value} {xs : List Value} (h : w.ownsRow base e s v n xs) (hb : base' ≤ base) : w.ownsRow base' e s v n xs := by
  refine ⟨h.1, ?_⟩
  rcases h.2 with h0 | ⟨g, cap, cur, hv, hbg, hr⟩
  · exact .inl h0
  · exact .inr ⟨g, cap, cur, hv, by omega, hr⟩
theorem bool_info : (Tryd.prog.info? 4).map (fun i => (i.zero, i.size, i.bytes)) = some (some (.bool false), 1, 1) := by kernel_rfl
theorem bool_parts : ∃ i, Tryd.prog.info? 4 = some i ∧ i.zero = some (.bool false) ∧ i.size = 1 ∧ i.bytes = 1 := by
  obtain ⟨i, hi, he⟩ := Option.map_eq_some_iff.1 bool_info
  simp only [Prod.mk.injEq] at he
  exact ⟨i, hi, he.1, he.2.1, he.2.2⟩
/-- a copy of a value: the same, its set in memory of its own -/
def Copy (v : Vl) (w : World) (e : Ending) (w' : World) : Prop :=
  ∃ a c, e = .returned (.agg #[.int .i64 v.sort, .int .i64 v.n, .bool v.b, .slice a v.s.length c]) ∧ Own w' w.heap.size a c v.s ∧ Below w.heap.size w w'
set_option maxRecDepth 100000 in
set_option maxHeartbeats 1000000 in
theorem copied_any (v : Vl) (w : World) (hin : VIn w w.heap.size v) (hl : v.s.length ≤ 140737488355328) :
    Calls Tryd.prog 148 #[v.val] w (Copy v w) := by
  obtain ⟨i0, hi0, hz0, hz1, hz2⟩ := bool_parts
  have HIN := mkHid hin.i
  have hm := Nat.le_trans hin.c hin.m
  unfold maxLen at hm
  have hc0 : BIn w w.heap.size v.a v.s := hin.i
  clear hin
  obtain ⟨so, nn, bb, aa, cc, ss⟩ := v
  unfold Vl.val
  simp only at HIN hm hl hc0 ⊢
  cases ss with
  | nil =>
    cases aa
    all_goals
      go_enter Tryd.func148, Tryd.ntmps148
      go_wp2
      refine bodyPost_ret (v := .agg #[.int .i64 so, .int .i64 nn, .bool bb, .slice none 0 0]) (by simp [results, Tryd.results148, go_sem]) rfl ⟨none, 0, rfl, World.ownsRow_nil _ _ _ _, ?_⟩
      (repeat (first | exact Below.refl _ _ | (refine bset ?_ (by simp <;> omega) _) | refine bdrew ?_ | refine bal ?_ _))
  | cons x ss =>
    obtain ⟨b, o, rfl, hb, -⟩ := hc0 0 (by simp)
    clear hc0
    have HC := mkHid (fun (w' : World) (hb' : Below w.heap.size w w') => HIN.out.keep hb')
    generalize hls : x :: ss = ls at *
    have HLS := mkHid hls
    clear hls
    generalize hn' : ls.length = n at *
    have HN := mkHid hn'
    clear hn'
    have hw2 : Below w.heap.size w ((w.alloc (.cells #[.int .i64 so, .int .i64 nn, .bool bb, .slice (some ⟨b, o, none⟩) n cc] 54)).alloc (.cells #[.int .i64 0, .int .i64 0, .bool false, .slice none 0 0] 54)) := bal (bal (Below.refl _ _) _) _
    have hcells := mkHid (HC.out _ hw2)
    have hF1 : FourV ((w.alloc (.cells #[.int .i64 so, .int .i64 nn, .bool bb, .slice (some ⟨b, o, none⟩) n cc] 54)).alloc (.cells #[.int .i64 0, .int .i64 0, .bool false, .slice none 0 0] 54)) w.heap.size (.int .i64 so) (.int .i64 nn) (.bool bb) (.slice (some ⟨b, o, none⟩) n cc) := by simp [FourV, go_sem]
    have hF2 : FourV ((w.alloc (.cells #[.int .i64 so, .int .i64 nn, .bool bb, .slice (some ⟨b, o, none⟩) n cc] 54)).alloc (.cells #[.int .i64 0, .int .i64 0, .bool false, .slice none 0 0] 54)) (w.heap.size + 1) (.int .i64 0) (.int .i64 0) (.bool false) (.slice none 0 0) := by simp [FourV, go_sem]
    have hsz : ((w.alloc (.cells #[.int .i64 so, .int .i64 nn, .bool bb, .slice (some ⟨b, o, none⟩) n cc] 54)).alloc (.cells #[.int .i64 0, .int .i64 0, .bool false, .slice none 0 0] 54)).heap.size = w.heap.size + 1 + 1 := by simp
    have hn1 : 0 < 0 + n := by rw [← HN.out, ← HLS.out]; simp
    generalize hW2 : (w.alloc (.cells #[.int .i64 so, .int .i64 nn, .bool bb, .slice (some ⟨b, o, none⟩) n cc] 54)).alloc (.cells #[.int .i64 0, .int .i64 0, .bool false, .slice none 0 0] 54) = W2 at *
    obtain ⟨a0, a1, a2, a3, a4, a5, a6, a7⟩ := id hF1
    obtain ⟨d0, d1, d2, d3, d4, d5, d6, d7⟩ := id hF2
    have HSZ := mkHid hsz
    clear hsz
    go_enter Tryd.func148, Tryd.ntmps148
    go_wp2_with (at_builtin
                 refine wpList_append_own _ rfl (.const (.slice none 0 0)) (.tmp 4) _ rfl (w.heap.size + 1 + 1) 4 i0 _ 1 1 Tryd.underlying52 hi0 hz0 hz1 hz2 rfl (by omega) (.slice none 0 0) 0 [] rfl (World.ownsRow_nil _ _ _ _) ⟨b, o, none⟩ n cc (bls ls) rfl (by rw [bls_len, HN.out]; omega) (fun j u hu => by
                   obtain ⟨hj, rfl⟩ := List.getElem?_eq_some_iff.1 hu
                   rw [bls_len] at hj
                   obtain ⟨b', o', e, -, h3⟩ := hcells.out j hj
                   cases e
                   rw [add_off, h3]
                   simp [bls]) (bls_one _) (by simp only [maxLen]; omega) (by omega) (by rw [HSZ.out]; exact Nat.le_refl _) ?_
                 intro v' w' ho hg _
                 obtain ⟨g, cp, rfl, hgb, hgl⟩ := World.ownsRow.form ho hn1
                 have hbw := grown_below hg (fun g h => by simp [Value.ownBlock] at h)
                 obtain ⟨x0, x1, x2, x3, x4, x5, x6, x7⟩ := hF1.later hbw
                 obtain ⟨y0, y1, y2, y3, y4, y5, y6, y7⟩ := hF2.later hbw
                 clear a0 a1 a2 a3 a4 a5 a6 a7 d0 d1 d2 d3 d4 d5 d6 d7 hW2)
    have BW := bon hw2 hbw
    refine bodyPost_ret (v := .agg #[.int .i64 so, .int .i64 nn, .bool bb, .slice (some ⟨g, 0, none⟩) n cp]) (by simp [results, Tryd.results148, go_sem, y0, y1, y2, y3]) rfl ⟨some ⟨g, 0, none⟩, cp, by rw [HN.out], ?_, ?_⟩
    · unfold Own
      rw [HN.out]
      refine own_base (base := w.heap.size + 1 + 1) ?_ (by omega)
      rw [Nat.zero_add, List.nil_append] at ho
      repeat (refine own_put ?_ (by simp <;> omega) _)
      exact ho
    · (repeat (first | exact BW | (refine bset ?_ (by simp <;> omega) _)))

/-- the first value of a name and a sort -/
def look (W : Wd) (nm : ByteArray) (s : Int) : Option Vl := (W.l.find? (hitN nm s)).map Nd.v
theorem findN_some {nm : ByteArray} {s : Int} {l : List Nd} {k : Nat} (h : findN nm s l k ≠ -1) : ∃ i, ∃ hi : i < l.length, findN nm s l k = (k : Int) + i ∧ l.find? (hitN nm s) = some l[i] := by
  induction l generalizing k with
  | nil => exact absurd rfl h
  | cons x l ih =>
    unfold findN at h ⊢
    by_cases hx : hitN nm s x = true
    · rw [if_pos hx]
      exact ⟨0, by simp, by omega, by simp [List.find?, hx]⟩
    · rw [if_neg hx] at h ⊢
      obtain ⟨i, hi, e, hf⟩ := ih h
      exact ⟨i + 1, by simpa using hi, by rw [e]; omega, by simp [List.find?, hx, hf]⟩
theorem findN_none {nm : ByteArray} {s : Int} {l : List Nd} {k : Nat} (h : findN nm s l k = -1) : l.find? (hitN nm s) = none := by
  induction l generalizing k with
  | nil => rfl
  | cons x l ih =>
    unfold findN at h
    by_cases hx : hitN nm s x = true
    · rw [if_pos hx] at h; omega
    · rw [if_neg hx] at h
      simp [List.find?, hx, ih h]

set_option maxRecDepth 100000 in
set_option maxHeartbeats 1000000 in
theorem get_none (W : Wd) (nm : ByteArray) (s : Int) (w : World) (hin : WIn w w.heap.size W) (h : look W nm s = none) :
    Calls Tryd.prog 133 #[W.val, .string nm, .int .i64 s] w fun e w' => e = .returned (.tuple #[zeroV, .bool false]) ∧ Below w.heap.size w w' := by
  have hf : findN nm s W.l 0 = -1 := by
    by_cases k : findN nm s W.l 0 = -1
    · exact k
    · obtain ⟨i, hi, -, e⟩ := findN_some k
      unfold look at h; rw [e] at h; cases h
  have hw2 : Below w.heap.size w (((w.alloc (boxW W)).alloc (.cells #[.int .i64 0, .int .i64 0, .bool false, .slice none 0 0] 54)).alloc (boxP W)) := bal (bal (bal (Below.refl _ _) _) _) _
  have FC := mkHid (find_any W nm s _ (hin.later hw2))
  rw [hf] at FC
  have hF2 : FourV (((w.alloc (boxW W)).alloc (.cells #[.int .i64 0, .int .i64 0, .bool false, .slice none 0 0] 54)).alloc (boxP W)) (w.heap.size + 1) (.int .i64 0) (.int .i64 0) (.bool false) (.slice none 0 0) := by simp [FourV, go_sem]
  have TWP : TwoW (((w.alloc (boxW W)).alloc (.cells #[.int .i64 0, .int .i64 0, .bool false, .slice none 0 0] 54)).alloc (boxP W)) (w.heap.size + 1 + 1) W := by simp [TwoW, boxP, go_sem]
  clear hf hin h
  unfold Wd.val at *
  generalize hW2 : ((w.alloc (boxW W)).alloc (.cells #[.int .i64 0, .int .i64 0, .bool false, .slice none 0 0] 54)).alloc (boxP W) = W2 at *
  unfold boxW boxP at hW2
  obtain ⟨p0, p1⟩ := id TWP
  obtain ⟨d0, d1, d2, d3, d4, d5, d6, d7⟩ := id hF2
  go_enter Tryd.func133, Tryd.ntmps133
  go_wp2_with fail
  ((with_reducible refine FC.out.mono ?_)); rintro e w3 ⟨rfl, hb3⟩
  clear d0 d1 d2 d3 d4 d5 d6 d7 hW2 p0 p1
  obtain ⟨d0, d1, d2, d3, d4, d5, d6, d7⟩ := hF2.later hb3
  go_wp2
  have BW := bon hw2 hb3
  refine bodyPost_ret (v := .tuple #[zeroV, .bool false]) (by simp [results, Tryd.results133, go_sem, d0, d1, d2, d3, zeroV]) rfl ⟨rfl, ?_⟩
  (repeat (first | exact BW | (refine bset ?_ (by simp <;> omega) _)))

theorem look_mem {W : Wd} {nm : ByteArray} {s : Int} {v : Vl} (h : look W nm s = some v) : ∃ i, ∃ hi : i < W.l.length, findN nm s W.l 0 = (i : Int) ∧ W.l[i].v = v := by
  by_cases k : findN nm s W.l 0 = -1
  · unfold look at h; rw [findN_none k] at h; cases h
  · obtain ⟨i, hi, e, hf⟩ := findN_some k
    refine ⟨i, hi, by rw [e]; omega, ?_⟩
    unfold look at h
    rw [hf] at h
    simpa using h

set_option maxRecDepth 100000 in
set_option maxHeartbeats 1000000 in
theorem get_some (W : Wd) (nm : ByteArray) (s : Int) (v : Vl) (w : World) (hin : WIn w w.heap.size W) (h : look W nm s = some v) (hl : v.s.length ≤ 140737488355328) :
    Calls Tryd.prog 133 #[W.val, .string nm, .int .i64 s] w fun e w' => ∃ a c, e = .returned (.tuple #[.agg #[.int .i64 v.sort, .int .i64 v.n, .bool v.b, .slice a v.s.length c], .bool true]) ∧ Own w' w.heap.size a c v.s ∧ Below w.heap.size w w' := by
  obtain ⟨i, hi, hf, hv⟩ := look_mem h
  have hn : W.l.length ≤ 9223372036854775807 := by have := hin.c; have := hin.m; unfold maxLen at this; omega
  have hw2 : Below w.heap.size w (((w.alloc (boxW W)).alloc (.cells #[.int .i64 0, .int .i64 0, .bool false, .slice none 0 0] 54)).alloc (boxP W)) := bal (bal (bal (Below.refl _ _) _) _) _
  have FC := mkHid (find_any W nm s _ (hin.later hw2))
  rw [hf] at FC
  have hF2 : FourV (((w.alloc (boxW W)).alloc (.cells #[.int .i64 0, .int .i64 0, .bool false, .slice none 0 0] 54)).alloc (boxP W)) (w.heap.size + 1) (.int .i64 0) (.int .i64 0) (.bool false) (.slice none 0 0) := by simp [FourV, go_sem]
  have TWP : TwoW (((w.alloc (boxW W)).alloc (.cells #[.int .i64 0, .int .i64 0, .bool false, .slice none 0 0] 54)).alloc (boxP W)) (w.heap.size + 1 + 1) W := by simp [TwoW, boxP, go_sem]
  have HIN := mkHid (hin.later hw2)
  have hX : w.heap.size + 1 < (((w.alloc (boxW W)).alloc (.cells #[.int .i64 0, .int .i64 0, .bool false, .slice none 0 0] 54)).alloc (boxP W)).heap.size := by simp <;> omega
  clear hf hin h
  have hi2 : (i : Int) < (W.l.length : Int) := by omega
  generalize hW2 : ((w.alloc (boxW W)).alloc (.cells #[.int .i64 0, .int .i64 0, .bool false, .slice none 0 0] 54)).alloc (boxP W) = W2 at *
  have HV := mkHid hv
  obtain ⟨b, o, ha, hbB, nd⟩ := HIN.out.at_ i hi
  have hvi := (HIN.out.vs _ (List.getElem_mem hi)).2
  rw [hv] at hvi
  generalize W.l[i] = q at *
  obtain rfl : q.v = v := hv
  unfold boxW boxP at hW2
  obtain ⟨wn, wa, wc, wl⟩ := W
  simp only at ha
  subst ha
  unfold Wd.val at *
  simp only at FC hW2 HIN hi hn hi2 TWP ⊢
  generalize hlen : wl.length = n at *
  have HLN := mkHid hlen
  clear hlen HV
  obtain ⟨p0, p1⟩ := id TWP
  simp only at p0 p1
  rw [HLN.out] at p1
  obtain ⟨d0, d1, d2, d3, d4, d5, d6, d7⟩ := id hF2
  go_enter Tryd.func133, Tryd.ntmps133
  go_wp2_with fail
  ((with_reducible refine FC.out.mono ?_)); rintro e w3 ⟨rfl, hb3⟩
  clear d0 d1 d2 d3 d4 d5 d6 d7 hW2 FC p0 p1
  have hF3 := hF2.later hb3
  obtain ⟨d0, d1, d2, d3, d4, d5, d6, d7⟩ := hF3
  have t1 := (TWP.later hb3).2
  simp only at t1
  rw [HLN.out] at t1
  obtain ⟨n0, n1, n2, n3, n4⟩ := nd.keep hb3 hbB
  have CC := mkHid (copied_any q.v w3 (hvi.later hb3) hl)
  unfold Vl.val at CC
  clear nd hvi
  go_wp2_with fail
  ((with_reducible refine CC.out.mono ?_)); rintro e w4 ⟨a, c, rfl, ho, hb4⟩
  clear d0 d1 d2 d3 d4 d5 d6 d7 t1 n0 n1 n2 n3 n4 CC
  obtain ⟨d0, d1, d2, d3, d4, d5, d6, d7⟩ := hF2.later (bon hb3 hb4)
  go_wp2
  have BW := bon (bon hw2 hb3) hb4
  have hz3 := hb3.size
  refine bodyPost_ret (v := .tuple #[.agg #[.int .i64 q.v.sort, .int .i64 q.v.n, .bool q.v.b, .slice a q.v.s.length c], .bool true]) (by simp [results, Tryd.results133, go_sem, d0, d1, d2, d3]) rfl ⟨a, c, rfl, ?_, ?_⟩
  · refine own_base (base := w3.heap.size) ?_ (by omega)
    repeat (refine own_put ?_ (by simp; omega) _)
    exact ho
  · (repeat (first | exact BW | (refine bset ?_ (by simp <;> omega) _)))
end Go.Proofs.YtlobffjgkhcjbaaDoor
