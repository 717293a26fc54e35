/-
  Rows of terms, and of assignments, that came in, opened.
-/
import Derived.Test.YtaibmdikimpooaaDoorTmIn
import Derived.Test.YtaibmdikimpooaaDoorSbI
namespace Go.Proofs.YtaibmdikimpooaaDoor
open Go.ChangeShapes Go.WideShapes Go.ChangeAt Go.RowKit

theorem pick_row {α : Type} {P : Nat → α → Prop} : ∀ n, (∀ i, i < n → ∃ T, P i T) → ∃ ks : List α, ks.length = n ∧ ∀ i (h : i < ks.length), P i ks[i]
  | 0, _ => ⟨[], rfl, fun i h => by simp at h⟩
  | n + 1, h => by
    obtain ⟨ks, hl, hk⟩ := pick_row n (fun i hi => h i (by omega))
    obtain ⟨T, hT⟩ := h n (by omega)
    refine ⟨ks ++ [T], by simp [hl], fun i hi => ?_⟩
    by_cases e : i < ks.length
    · rw [List.getElem_append_left e]; exact hk i e
    · have : i = n := by simp at hi; omega
      subst this
      rw [List.getElem_append_right (by omega)]
      simpa [hl] using hT
set_option maxRecDepth 100000 in
theorem terms_in {H : Type} {enc : TypeId × Value → H} {W : World} {base : Nat} {v : Value} {d : DataW H} {ps : List MemPlace} (hv : Value.okWide Tryd.prog W .any base 22 v)
    (h : DataW.Trod enc Tryd.prog W 0 (fun _ => true) true 22 v d ps) : ∃ (a : Option Addr) (len c : Nat) (ks : List Tm), v = .slice a len c ∧ len ≤ c ∧ c ≤ maxLen ∧ ks.length = len ∧ (∀ j (hj : j < ks.length), ∃ b o, a = some ⟨b, o, none⟩ ∧ b < W.heap.size ∧ Four W b (o + j * 4) ks[j]) ∧ ∀ k ∈ ks, TIn W W.heap.size k := by
  obtain ⟨a0, len0, cap0, rfl⟩ := okWide_slice Tryd.underlying22 hv
  obtain ⟨fuel, hf⟩ := h
  rcases DataW.trod_slice Tryd.underlying22 hf with ⟨e3, -⟩ | ⟨a, len, cap, elems, rest, m', rfl, e3, -, -, hl, hm, hel, he, -, -⟩
  · simp only [Value.cells, List.cons.injEq, and_true, Value.slice.injEq] at e3
    obtain ⟨rfl, rfl, rfl⟩ := e3
    exact ⟨none, 0, 0, [], rfl, Nat.le_refl _, Nat.zero_le _, rfl, fun j hj => absurd hj (by simp), fun k hk => absurd hk (by simp)⟩
  · simp only [Value.cells, List.cons.injEq, and_true, Value.slice.injEq] at e3
    obtain ⟨rfl, rfl, rfl⟩ := e3
    rw [cells24] at he
    have key : ∀ i, i < len0 → ∃ T : Tm, TIn W W.heap.size T ∧ W.cell? ((a.add (i * 4)).add 0) = some (.int .i64 T.op) ∧ W.cell? ((a.add (i * 4)).add 1) = some (.string T.nm) ∧ W.cell? ((a.add (i * 4)).add 2) = some (.int .i64 T.n) ∧ W.cell? ((a.add (i * 4)).add 3) = some (.slice T.a T.ks.length T.c) := by
      intro i hi
      have h1 := he i hi
      rw [List.getElem?_eq_getElem (by omega)] at h1
      obtain ⟨cs', hc, ht⟩ := Option.bind_eq_some_iff.1 h1
      obtain ⟨-, -, hat⟩ := World.cells?_some hc
      obtain ⟨T, e, hT⟩ := term_open m' _ _ ht
      subst e
      exact ⟨T, hT, by rw [hat 0 (by omega)]; rfl, by rw [hat 1 (by omega)]; rfl, by rw [hat 2 (by omega)]; rfl, by rw [hat 3 (by omega)]; rfl⟩
    obtain ⟨ks, hkl, hk⟩ := pick_row len0 key
    refine ⟨some a, len0, cap0, ks, rfl, hl, hm, hkl, fun j hj => ?_, fun k hkk => ?_⟩
    · obtain ⟨hT, k0, k1, k2, k3⟩ := hk j hj
      obtain ⟨b, o, spot⟩ := a
      have hspot : spot = none := by
        obtain ⟨-, q0, -⟩ := hk 0 (by omega)
        simpa [Addr.add] using World.cell?_spot q0
      subst hspot
      refine ⟨b, o, rfl, ?_, ?_⟩
      · have := World.block_lt_of_cell? _ _ k0
        simpa [Addr.add_lit] using this
      · simp only [Addr.add_lit, Nat.add_zero] at k0 k1 k2 k3
        exact ⟨k0, k1, k2, k3⟩
    · obtain ⟨j, hj, rfl⟩ := List.mem_iff_getElem.1 hkk
      exact (hk j hj).1
theorem cellsAs : Tryd.prog.cellsOf 38 = 5 := by kernel_rfl
set_option maxRecDepth 100000 in
theorem asgs_in {H : Type} {enc : TypeId × Value → H} {W : World} {base : Nat} {v : Value} {d : DataW H} {ps : List MemPlace} (hv : Value.okWide Tryd.prog W .any base 31 v)
    (h : DataW.Trod enc Tryd.prog W 0 (fun _ => true) true 31 v d ps) : ∃ (a : Option Addr) (len c : Nat) (l : List As), v = .slice a len c ∧ len ≤ c ∧ c ≤ maxLen ∧ l.length = len ∧ (∀ j (hj : j < l.length), ∃ b o, a = some ⟨b, o, none⟩ ∧ b < W.heap.size ∧ Five5 W b (o + j * 5) l[j]) ∧ ∀ x ∈ l, AsIn W x := by
  obtain ⟨a0, len0, cap0, rfl⟩ := okWide_slice Tryd.underlying31 hv
  obtain ⟨fuel, hf⟩ := h
  rcases DataW.trod_slice Tryd.underlying31 hf with ⟨e3, -⟩ | ⟨a, len, cap, elems, rest, m', rfl, e3, -, -, hl, hm, hel, he, -, -⟩
  · simp only [Value.cells, List.cons.injEq, and_true, Value.slice.injEq] at e3
    obtain ⟨rfl, rfl, rfl⟩ := e3
    exact ⟨none, 0, 0, [], rfl, Nat.le_refl _, Nat.zero_le _, rfl, fun j hj => absurd hj (by simp), fun k hk => absurd hk (by simp)⟩
  · simp only [Value.cells, List.cons.injEq, and_true, Value.slice.injEq] at e3
    obtain ⟨rfl, rfl, rfl⟩ := e3
    rw [cellsAs] at he
    have key : ∀ i, i < len0 → ∃ x : As, AsIn W x ∧ W.cell? ((a.add (i * 5)).add 0) = some (.string x.1) ∧ W.cell? ((a.add (i * 5)).add 1) = some (.int .i64 x.2.op) ∧ W.cell? ((a.add (i * 5)).add 2) = some (.string x.2.nm) ∧ W.cell? ((a.add (i * 5)).add 3) = some (.int .i64 x.2.n) ∧ W.cell? ((a.add (i * 5)).add 4) = some (.slice x.2.a x.2.ks.length x.2.c) := by
      intro i hi
      have h1 := he i hi
      rw [List.getElem?_eq_getElem (by omega)] at h1
      obtain ⟨cs', hc, ht⟩ := Option.bind_eq_some_iff.1 h1
      obtain ⟨-, -, hat⟩ := World.cells?_some hc
      obtain ⟨xs, m, -, hx, hlen, hxs, hg⟩ := DataW.trod_struct Tryd.underlying38 ht
      rw [cellsAs] at hlen
      match cs', hlen with
      | [c0, c1, c2, c3, c4], _ =>
        have hx2 : xs.length = 2 := hxs
        match xs, hx2 with
        | [y0, y1], _ =>
          have g0 : DataW.trod enc Tryd.prog W 0 (fun _ => true) true m 9 (([c0, c1, c2, c3, c4].drop 0).take (Tryd.prog.cellsOf 9)) = some y0 := hg 0 _ rfl
          rw [cells9] at g0
          change DataW.trod enc Tryd.prog W 0 (fun _ => true) true m 9 [c0] = some y0 at g0
          have g1 : DataW.trod enc Tryd.prog W 0 (fun _ => true) true m 24 (([c0, c1, c2, c3, c4].drop 1).take (Tryd.prog.cellsOf 24)) = some y1 := hg 1 _ rfl
          rw [cells24] at g1
          change DataW.trod enc Tryd.prog W 0 (fun _ => true) true m 24 [c1, c2, c3, c4] = some y1 at g1
          obtain ⟨nm, e0, -, w0⟩ := DataW.trod_string Tryd.underlying9 g0
          obtain ⟨T, e, hT⟩ := term_open m _ _ g1
          simp only [List.cons.injEq, and_true] at e0 e
          obtain ⟨rfl, rfl, rfl, rfl⟩ := e
          subst e0
          exact ⟨(nm, T), ⟨hT, w0⟩, by rw [hat 0 (by omega)]; rfl, by rw [hat 1 (by omega)]; rfl, by rw [hat 2 (by omega)]; rfl, by rw [hat 3 (by omega)]; rfl, by rw [hat 4 (by omega)]; rfl⟩
    obtain ⟨l, hkl, hk⟩ := pick_row len0 key
    refine ⟨some a, len0, cap0, l, rfl, hl, hm, hkl, fun j hj => ?_, fun k hkk => ?_⟩
    · obtain ⟨hT, k0, k1, k2, k3, k4⟩ := hk j hj
      obtain ⟨b, o, spot⟩ := a
      have hspot : spot = none := by
        obtain ⟨-, q0, -⟩ := hk 0 (by omega)
        simpa [Addr.add] using World.cell?_spot q0
      subst hspot
      refine ⟨b, o, rfl, ?_, ?_⟩
      · have := World.block_lt_of_cell? _ _ k0
        simpa [Addr.add_lit] using this
      · simp only [Addr.add_lit, Nat.add_zero] at k0 k1 k2 k3 k4
        exact ⟨k0, k1, k2, k3, k4⟩
    · obtain ⟨j, hj, rfl⟩ := List.mem_iff_getElem.1 hkk
      exact (hk j hj).1
end Go.Proofs.YtaibmdikimpooaaDoor
