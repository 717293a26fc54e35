/-
  What SubstValues's proof stands on, part 22: EvIn.
-/
import Derived.Test.YtdfebacjbapahaaGreatDoorSubstValuesK08
import Derived.Test.YtdfebacjbapahaaGreatDoorSubstValuesK21
namespace Go.Proofs.YtdfebacjbapahaaGreatDoor
section
open Go.ChangeShapes Go.WideShapes Go.ChangeAt Go.RowKit

theorem cells46 : Tryz.prog.cellsOf 36 = 4 := by kernel_rfl
theorem cells53 : Tryz.prog.cellsOf 57 = 5 := by kernel_rfl
theorem cells43 : Tryz.prog.cellsOf 28 = 2 := by kernel_rfl
theorem cells44 : Tryz.prog.cellsOf 34 = 1 := by kernel_rfl
theorem cells41 : Tryz.prog.cellsOf 26 = 1 := by kernel_rfl
theorem pick_any {α : Type} {P : Nat → α → Prop} : ∀ n, (∀ i, i < n → ∃ T, P i T) → ∃ ks : List α, ks.length = n ∧ ∀ i (h : i < ks.length), P i ks[i]
  | 0, _ => ⟨[], rfl, fun i h => by simp at h⟩
  | n + 1, h => by
    obtain ⟨ks, hl, hk⟩ := pick_any n (fun i hi => h i (by omega))
    obtain ⟨T, hT⟩ := h n (by omega)
    refine ⟨ks ++ [T], by simp [hl], fun i hi => ?_⟩
    by_cases e : i < ks.length
    · rw [List.getElem_append_left e]; exact hk i e
    · have : i = n := by simp at hi; omega
      subst this
      rw [List.getElem_append_right (by omega)]
      simpa [hl] using hT
set_option maxRecDepth 100000 in
theorem value_open {H : Type} {enc : TypeId × Value → H} {W : World} {fuel : Nat} {cs : List Value} {x : DataW H × List MemPlace}
    (h : DataW.trod enc Tryz.prog W 0 (fun _ => true) true fuel 36 cs = some x) : ∃ V : Vl, cs = [.int .i64 V.sort, .int .i64 V.n, .bool V.b, .slice V.a V.s.length V.c] ∧ VIn W W.heap.size V := by
  obtain ⟨xs, m, rfl, hx, hlen, hxs, hg⟩ := DataW.trod_struct Tryz.underlying36 h
  rw [cells46] at hlen
  match cs, hlen with
  | [c0, c1, c2, c3], _ =>
    have hx4 : xs.length = 4 := hxs
    match xs, hx4 with
    | [y0, y1, y2, y3], _ =>
      have g0 : DataW.trod enc Tryz.prog W 0 (fun _ => true) true m 3 (([c0, c1, c2, c3].drop 0).take (Tryz.prog.cellsOf 3)) = some y0 := hg 0 _ rfl
      rw [cells3] at g0
      change DataW.trod enc Tryz.prog W 0 (fun _ => true) true m 3 [c0] = some y0 at g0
      have g1 : DataW.trod enc Tryz.prog W 0 (fun _ => true) true m 2 (([c0, c1, c2, c3].drop 1).take (Tryz.prog.cellsOf 2)) = some y1 := hg 1 _ rfl
      rw [cells2] at g1
      change DataW.trod enc Tryz.prog W 0 (fun _ => true) true m 2 [c1] = some y1 at g1
      have g2 : DataW.trod enc Tryz.prog W 0 (fun _ => true) true m 4 (([c0, c1, c2, c3].drop 2).take (Tryz.prog.cellsOf 4)) = some y2 := hg 2 _ rfl
      rw [cells4] at g2
      change DataW.trod enc Tryz.prog W 0 (fun _ => true) true m 4 [c2] = some y2 at g2
      have g3 : DataW.trod enc Tryz.prog W 0 (fun _ => true) true m 34 (([c0, c1, c2, c3].drop 3).take (Tryz.prog.cellsOf 34)) = some y3 := hg 3 _ rfl
      rw [cells44] at g3
      change DataW.trod enc Tryz.prog W 0 (fun _ => true) true m 34 [c3] = some y3 at g3
      obtain ⟨so, e0, -, w0⟩ := DataW.trod_int Tryz.underlying3 g0
      obtain ⟨n, e1, -, w1⟩ := DataW.trod_int Tryz.underlying2 g1
      obtain ⟨b, e2, -⟩ := DataW.trod_bool Tryz.underlying4 g2
      simp only [List.cons.injEq, and_true] at e0 e1 e2
      subst e0 e1 e2
      rcases DataW.trod_slice Tryz.underlying34 g3 with ⟨e3, -⟩ | ⟨a, len, cap, elems, rest, m', rfl, e3, -, -, hl, hm, hel, he, -, -⟩
      · simp only [List.cons.injEq, and_true] at e3
        subst e3
        exact ⟨⟨so, n, b, none, 0, []⟩, rfl, fit_of w0, fit_of w1, Nat.le_refl _, Nat.zero_le _, fun j hj => by simp at hj⟩
      · simp only [List.cons.injEq, and_true] at e3
        subst e3
        rw [cells4] at he
        have key : ∀ i, i < len → ∃ T : Bool, W.cell? (a.add (i * 1)) = some (.bool T) := by
          intro i hi
          have h1 := he i hi
          rw [List.getElem?_eq_getElem (by omega)] at h1
          obtain ⟨cs', hc, ht⟩ := Option.bind_eq_some_iff.1 h1
          obtain ⟨hcl, -, hat⟩ := World.cells?_some hc
          obtain ⟨T, e, -⟩ := DataW.trod_bool Tryz.underlying4 ht
          subst e
          have := hat 0 (by omega)
          rw [show (a.add (i * 1)).add 0 = a.add (i * 1) by unfold Addr.add; simp] at this
          exact ⟨T, this⟩
        obtain ⟨ks, hkl, hk⟩ := pick_any len key
        refine ⟨⟨so, n, b, some a, cap, ks⟩, by rw [← hkl], fit_of w0, fit_of w1, by show ks.length ≤ cap; omega, hm, fun j hj => ?_⟩
        have k0 := hk j hj
        obtain ⟨b', o, spot⟩ := a
        have hspot : spot = none := by
          have q0 := hk 0 (by show 0 < ks.length; have : j < ks.length := hj; omega)
          simpa [Addr.add] using World.cell?_spot q0
        subst hspot
        refine ⟨b', o, rfl, ?_, ?_⟩
        · have := World.block_lt_of_cell? _ _ k0
          simpa [Addr.add_lit] using this
        · simpa [Addr.add_lit] using k0
set_option maxRecDepth 100000 in
theorem named_open {H : Type} {enc : TypeId × Value → H} {W : World} {fuel : Nat} {cs : List Value} {x : DataW H × List MemPlace}
    (h : DataW.trod enc Tryz.prog W 0 (fun _ => true) true fuel 57 cs = some x) : ∃ X : Nd, cs = [.string X.nm, .int .i64 X.v.sort, .int .i64 X.v.n, .bool X.v.b, .slice X.v.a X.v.s.length X.v.c] ∧ X.nm.size ≤ maxLen ∧ VIn W W.heap.size X.v := by
  obtain ⟨xs, m, rfl, hx, hlen, hxs, hg⟩ := DataW.trod_struct Tryz.underlying57 h
  rw [cells53] at hlen
  match cs, hlen with
  | [c0, c1, c2, c3, c4], _ =>
    have hx2 : xs.length = 2 := hxs
    match xs, hx2 with
    | [y0, y1], _ =>
      have g0 : DataW.trod enc Tryz.prog W 0 (fun _ => true) true m 9 (([c0, c1, c2, c3, c4].drop 0).take (Tryz.prog.cellsOf 9)) = some y0 := hg 0 _ rfl
      rw [cells9] at g0
      change DataW.trod enc Tryz.prog W 0 (fun _ => true) true m 9 [c0] = some y0 at g0
      have g1 : DataW.trod enc Tryz.prog W 0 (fun _ => true) true m 36 (([c0, c1, c2, c3, c4].drop 1).take (Tryz.prog.cellsOf 36)) = some y1 := hg 1 _ rfl
      rw [cells46] at g1
      change DataW.trod enc Tryz.prog W 0 (fun _ => true) true m 36 [c1, c2, c3, c4] = some y1 at g1
      obtain ⟨nm, e0, -, w0⟩ := DataW.trod_string Tryz.underlying9 g0
      obtain ⟨V, e1, hV⟩ := value_open g1
      simp only [List.cons.injEq, and_true] at e0 e1
      obtain ⟨rfl, rfl, rfl, rfl⟩ := e1
      subst e0
      exact ⟨⟨nm, V⟩, rfl, w0, hV⟩
set_option maxRecDepth 100000 in
theorem world_open {H : Type} {enc : TypeId × Value → H} {W : World} {fuel : Nat} {cs : List Value} {x : DataW H × List MemPlace}
    (h : DataW.trod enc Tryz.prog W 0 (fun _ => true) true fuel 28 cs = some x) : ∃ D : Wd, cs = [.int .i64 D.nodes, .slice D.a D.l.length D.c] ∧ WIn W W.heap.size D := by
  obtain ⟨xs, m, rfl, hx, hlen, hxs, hg⟩ := DataW.trod_struct Tryz.underlying28 h
  rw [cells43] at hlen
  match cs, hlen with
  | [c0, c1], _ =>
    have hx2 : xs.length = 2 := hxs
    match xs, hx2 with
    | [y0, y1], _ =>
      have g0 : DataW.trod enc Tryz.prog W 0 (fun _ => true) true m 3 (([c0, c1].drop 0).take (Tryz.prog.cellsOf 3)) = some y0 := hg 0 _ rfl
      rw [cells3] at g0
      change DataW.trod enc Tryz.prog W 0 (fun _ => true) true m 3 [c0] = some y0 at g0
      have g1 : DataW.trod enc Tryz.prog W 0 (fun _ => true) true m 26 (([c0, c1].drop 1).take (Tryz.prog.cellsOf 26)) = some y1 := hg 1 _ rfl
      rw [cells41] at g1
      change DataW.trod enc Tryz.prog W 0 (fun _ => true) true m 26 [c1] = some y1 at g1
      obtain ⟨no, e0, -, w0⟩ := DataW.trod_int Tryz.underlying3 g0
      simp only [List.cons.injEq, and_true] at e0
      subst e0
      rcases DataW.trod_slice Tryz.underlying26 g1 with ⟨e3, -⟩ | ⟨a, len, cap, elems, rest, m', rfl, e3, -, -, hl, hm, hel, he, -, -⟩
      · simp only [List.cons.injEq, and_true] at e3
        subst e3
        exact ⟨⟨no, none, 0, []⟩, rfl, fit_of w0, Nat.le_refl _, Nat.zero_le _, fun j hj => by simp at hj, fun x hx => by simp at hx⟩
      · simp only [List.cons.injEq, and_true] at e3
        subst e3
        rw [cells53] at he
        have key : ∀ i, i < len → ∃ X : Nd, (X.nm.size ≤ maxLen ∧ VIn W W.heap.size X.v) ∧ W.cell? ((a.add (i * 5)).add 0) = some (.string X.nm) ∧ W.cell? ((a.add (i * 5)).add 1) = some (.int .i64 X.v.sort) ∧ W.cell? ((a.add (i * 5)).add 2) = some (.int .i64 X.v.n) ∧ W.cell? ((a.add (i * 5)).add 3) = some (.bool X.v.b) ∧ W.cell? ((a.add (i * 5)).add 4) = some (.slice X.v.a X.v.s.length X.v.c) := by
          intro i hi
          have h1 := he i hi
          rw [List.getElem?_eq_getElem (by omega)] at h1
          obtain ⟨cs', hc, ht⟩ := Option.bind_eq_some_iff.1 h1
          obtain ⟨-, -, hat⟩ := World.cells?_some hc
          obtain ⟨X, e, hX⟩ := named_open ht
          subst e
          exact ⟨X, hX, by rw [hat 0 (by omega)]; rfl, by rw [hat 1 (by omega)]; rfl, by rw [hat 2 (by omega)]; rfl, by rw [hat 3 (by omega)]; rfl, by rw [hat 4 (by omega)]; rfl⟩
        obtain ⟨ks, hkl, hk⟩ := pick_any len key
        refine ⟨⟨no, some a, cap, ks⟩, by rw [← hkl], fit_of w0, by show ks.length ≤ cap; omega, hm, fun j hj => ?_, fun x hx => ?_⟩
        · obtain ⟨-, k0, k1, k2, k3, k4⟩ := hk j hj
          obtain ⟨b, o, spot⟩ := a
          have hspot : spot = none := by
            obtain ⟨-, q0, -⟩ := hk 0 (by show 0 < ks.length; have : j < ks.length := hj; omega)
            simpa [Addr.add] using World.cell?_spot q0
          subst hspot
          refine ⟨b, o, rfl, ?_, ?_⟩
          · have := World.block_lt_of_cell? _ _ k0
            simpa [Addr.add_lit] using this
          · simp only [Addr.add_lit, Nat.add_zero] at k0 k1 k2 k3 k4
            exact ⟨k0, k1, k2, k3, k4⟩
        · obtain ⟨j, hj, rfl⟩ := List.mem_iff_getElem.1 hx
          exact (hk j hj).1
set_option maxRecDepth 100000 in
theorem world_in {H : Type} {enc : TypeId × Value → H} {W : World} {base : Nat} {v : Value} {d : DataW H} {ps : List MemPlace} (hv : Value.okWide Tryz.prog W .any base 28 v)
    (h : DataW.Trod enc Tryz.prog W 0 (fun _ => true) true 28 v d ps) : ∃ D : Wd, v = D.val ∧ WIn W W.heap.size D := by
  obtain ⟨cs, rfl, hsz⟩ := okWide_struct Tryz.underlying28 hv
  obtain ⟨fuel, hf⟩ := h
  obtain ⟨D, e, hD⟩ := world_open hf
  refine ⟨D, ?_, hD⟩
  have e' : cs.toList = [.int .i64 D.nodes, .slice D.a D.l.length D.c] := e
  unfold Wd.val
  rw [← e']
set_option maxRecDepth 100000 in
theorem value_in {H : Type} {enc : TypeId × Value → H} {W : World} {base : Nat} {v : Value} {d : DataW H} {ps : List MemPlace} (hv : Value.okWide Tryz.prog W .any base 36 v)
    (h : DataW.Trod enc Tryz.prog W 0 (fun _ => true) true 36 v d ps) : ∃ V : Vl, v = V.val ∧ VIn W W.heap.size V := by
  obtain ⟨cs, rfl, hsz⟩ := okWide_struct Tryz.underlying36 hv
  obtain ⟨fuel, hf⟩ := h
  obtain ⟨V, e, hV⟩ := value_open hf
  refine ⟨V, ?_, hV⟩
  have e' : cs.toList = [.int .i64 V.sort, .int .i64 V.n, .bool V.b, .slice V.a V.s.length V.c] := e
  unfold Vl.val
  rw [← e']
end
end Go.Proofs.YtdfebacjbapahaaGreatDoor
