/-
  A term that came in, as a tree; the table of shapes, as it is laid.
-/
import Derived.Test.YtaibmdikimpooaaDoorTmC
import Derived.Test.YtaibmdikimpooaaDoorTmG
import Derived.ProofKit
import Derived.OpenShut
import Derived.LaidMore
import Derived.Stop.Joined
import Derived.Carry
import Derived.ChangeOld
namespace Go.Proofs.YtaibmdikimpooaaDoor
open Go.ChangeShapes Go.WideShapes Go.ChangeAt Go.RowKit

theorem laidOutT : laidOutB Tryd.prog = true := by kernel_rfl
theorem cells24 : Tryd.prog.cellsOf 24 = 4 := by kernel_rfl
theorem cells3 : Tryd.prog.cellsOf 3 = 1 := by kernel_rfl
theorem cells9 : Tryd.prog.cellsOf 9 = 1 := by kernel_rfl
theorem cells2 : Tryd.prog.cellsOf 2 = 1 := by kernel_rfl
theorem cells4 : Tryd.prog.cellsOf 4 = 1 := by kernel_rfl
theorem cells22 : Tryd.prog.cellsOf 22 = 1 := by kernel_rfl
theorem cells48 : Tryd.prog.cellsOf 52 = 2 := by kernel_rfl
theorem cells50 : Tryd.prog.cellsOf 54 = 7 := by kernel_rfl
theorem cells51 : Tryd.prog.cellsOf 55 = 203 := by kernel_rfl
theorem fit_of {a : Int} (h : (Lit.int .i64 a).wf = true) : fitB a = true := by
  have := bounds_i64 h
  rw [fitB_iff]; omega
theorem pick_list {P : Nat → Tm → Prop} : ∀ n, (∀ i, i < n → ∃ T, P i T) → ∃ ks : List Tm, ks.length = n ∧ ∀ i (h : i < ks.length), P i ks[i]
  | 0, _ => ⟨[], rfl, fun i h => by simp at h⟩
  | n + 1, h => by
    obtain ⟨ks, hl, hk⟩ := pick_list n (fun i hi => h i (by omega))
    obtain ⟨T, hT⟩ := h n (by omega)
    refine ⟨ks ++ [T], by simp [hl], fun i hi => ?_⟩
    by_cases e : i < ks.length
    · rw [List.getElem_append_left e]; exact hk i e
    · have : i = n := by simp at hi; omega
      subst this
      rw [List.getElem_append_right (by omega)]
      simpa [hl] using hT

set_option maxRecDepth 100000 in
theorem term_open {H : Type} {enc : TypeId × Value → H} {W : World} : ∀ (fuel : Nat) (cs : List Value) (x : DataW H × List MemPlace),
    DataW.trod enc Tryd.prog W 0 (fun _ => true) true fuel 24 cs = some x → ∃ T : Tm, cs = [.int .i64 T.op, .string T.nm, .int .i64 T.n, .slice T.a T.ks.length T.c] ∧ TIn W W.heap.size T := by
  intro fuel
  induction fuel using Nat.strongRecOn with
  | ind fuel ih =>
    intro cs x h
    obtain ⟨xs, m, rfl, hx, hlen, hxs, hg⟩ := DataW.trod_struct Tryd.underlying24 h
    rw [cells24] at hlen
    match cs, hlen with
    | [c0, c1, c2, c3], _ =>
      have hx4 : xs.length = 4 := hxs
      match xs, hx4 with
      | [y0, y1, y2, y3], _ =>
        have g0 : DataW.trod enc Tryd.prog W 0 (fun _ => true) true m 3 (([c0, c1, c2, c3].drop 0).take (Tryd.prog.cellsOf 3)) = some y0 := hg 0 _ rfl
        rw [cells3] at g0
        change DataW.trod enc Tryd.prog W 0 (fun _ => true) true m 3 [c0] = some y0 at g0
        have g1 : DataW.trod enc Tryd.prog W 0 (fun _ => true) true m 9 (([c0, c1, c2, c3].drop 1).take (Tryd.prog.cellsOf 9)) = some y1 := hg 1 _ rfl
        rw [cells9] at g1
        change DataW.trod enc Tryd.prog W 0 (fun _ => true) true m 9 [c1] = some y1 at g1
        have g2 : DataW.trod enc Tryd.prog W 0 (fun _ => true) true m 2 (([c0, c1, c2, c3].drop 2).take (Tryd.prog.cellsOf 2)) = some y2 := hg 2 _ rfl
        rw [cells2] at g2
        change DataW.trod enc Tryd.prog W 0 (fun _ => true) true m 2 [c2] = some y2 at g2
        have g3 : DataW.trod enc Tryd.prog W 0 (fun _ => true) true m 22 (([c0, c1, c2, c3].drop 3).take (Tryd.prog.cellsOf 22)) = some y3 := hg 3 _ rfl
        rw [cells22] at g3
        change DataW.trod enc Tryd.prog W 0 (fun _ => true) true m 22 [c3] = some y3 at g3
        obtain ⟨op, e0, -, w0⟩ := DataW.trod_int Tryd.underlying3 g0
        obtain ⟨nm, e1, -, w1⟩ := DataW.trod_string Tryd.underlying9 g1
        obtain ⟨n, e2, -, w2⟩ := DataW.trod_int Tryd.underlying2 g2
        simp only [List.cons.injEq, and_true] at e0 e1 e2
        subst e0 e1 e2
        rcases DataW.trod_slice Tryd.underlying22 g3 with ⟨e3, -⟩ | ⟨a, len, cap, elems, rest, m', rfl, e3, -, -, hl, hm, hel, he, -, -⟩
        · simp only [List.cons.injEq, and_true] at e3
          subst e3
          exact ⟨.node op nm n none 0 [], rfl, .mk _ (fit_of w0) (fit_of w2) w1 (Nat.le_refl _) (Nat.zero_le _) (fun j hj => by simp [Tm.ks] at hj) (fun k hk => by simp [Tm.ks] at hk)⟩
        · simp only [List.cons.injEq, and_true] at e3
          subst e3
          rw [cells24] at he
          have key : ∀ i, i < len → ∃ T : Tm, TIn W W.heap.size T ∧ W.cell? ((a.add (i * 4)).add 0) = some (.int .i64 T.op) ∧ W.cell? ((a.add (i * 4)).add 1) = some (.string T.nm) ∧ W.cell? ((a.add (i * 4)).add 2) = some (.int .i64 T.n) ∧ W.cell? ((a.add (i * 4)).add 3) = some (.slice T.a T.ks.length T.c) := by
            intro i hi
            have h1 := he i hi
            rw [List.getElem?_eq_getElem (by omega)] at h1
            obtain ⟨cs', hc, ht⟩ := Option.bind_eq_some_iff.1 h1
            obtain ⟨-, -, hat⟩ := World.cells?_some hc
            obtain ⟨T, e, hT⟩ := ih m' (by omega) cs' _ ht
            subst e
            exact ⟨T, hT, by rw [hat 0 (by omega)]; rfl, by rw [hat 1 (by omega)]; rfl, by rw [hat 2 (by omega)]; rfl, by rw [hat 3 (by omega)]; rfl⟩
          obtain ⟨ks, hkl, hk⟩ := pick_list len key
          refine ⟨.node op nm n (some a) cap ks, by rw [← hkl]; rfl, .mk _ (fit_of w0) (fit_of w2) w1 (by show ks.length ≤ cap; omega) hm (fun j hj => ?_) (fun k hkk => ?_)⟩
          · obtain ⟨hT, k0, k1, k2, k3⟩ := hk j hj
            obtain ⟨b, o, spot⟩ := a
            have hspot : spot = none := by
              have hj' : j < ks.length := hj
              obtain ⟨-, q0, -⟩ := hk 0 (by omega)
              simpa [Addr.add] using World.cell?_spot q0
            subst hspot
            refine ⟨b, o, rfl, ?_, ?_⟩
            · have := World.block_lt_of_cell? _ _ k0
              simpa [Addr.add_lit] using this
            · simp only [Addr.add_lit, Nat.add_zero] at k0 k1 k2 k3
              exact ⟨k0, k1, k2, k3⟩
          · obtain ⟨j, hj, rfl⟩ := List.mem_iff_getElem.1 hkk
            exact (hk j hj).1
set_option maxRecDepth 100000 in
theorem term_in {H : Type} {enc : TypeId × Value → H} {W : World} {base : Nat} {v : Value} {d : DataW H} {ps : List MemPlace} (hv : Value.okWide Tryd.prog W .any base 24 v)
    (h : DataW.Trod enc Tryd.prog W 0 (fun _ => true) true 24 v d ps) : ∃ T : Tm, v = T.val ∧ TIn W W.heap.size T := by
  obtain ⟨cs, rfl, hsz⟩ := okWide_struct Tryd.underlying24 hv
  obtain ⟨fuel, hf⟩ := h
  obtain ⟨T, e, hT⟩ := term_open fuel _ _ hf
  refine ⟨T, ?_, hT⟩
  have e' : cs.toList = [.int .i64 T.op, .string T.nm, .int .i64 T.n, .slice T.a T.ks.length T.c] := e
  unfold Tm.val
  rw [← e']

/- the table -/
def shD {H : Type} (r : Sh) : DataW H := .agg [.lit (.int .i64 r.sort), .lit (.bool r.name), .lit (.bool r.number), .lit (.bool r.many), .lit (.int .i64 r.count), .agg [.lit (.int .i64 r.p0), .lit (.int .i64 r.p1)]]
set_option maxRecDepth 100000 in
theorem laid_rows {H : Type} : (Rows.laid_ashlar_term_shapes : DataW H) = .agg (shRows.map shD) := by rfl
set_option maxRecDepth 100000 in
theorem sh_open {H : Type} {enc : TypeId × Value → H} {W : World} {held : Bool} {fuel : Nat} {cs : List Value} {x : DataW H × List MemPlace} {r : Sh} (h : DataW.trod enc Tryd.prog W 0 (fun _ => true) held fuel 54 cs = some x) (hx : x.1 = shD r) :
    cs = [.int .i64 r.sort, .bool r.name, .bool r.number, .bool r.many, .int .i64 r.count, .int .i64 r.p0, .int .i64 r.p1] := by
  obtain ⟨xs, m, rfl, rfl, hlen, hxs, hg⟩ := DataW.trod_struct Tryd.underlying54 h
  rw [cells50] at hlen
  match cs, hlen with
  | [c0, c1, c2, c3, c4, c5, c6], _ =>
    have hx6 : xs.length = 6 := hxs
    match xs, hx6 with
    | [y0, y1, y2, y3, y4, y5], _ =>
      have g0 : DataW.trod enc Tryd.prog W 0 (fun _ => true) held m 3 (([c0, c1, c2, c3, c4, c5, c6].drop 0).take (Tryd.prog.cellsOf 3)) = some y0 := hg 0 _ rfl
      rw [cells3] at g0
      change DataW.trod enc Tryd.prog W 0 (fun _ => true) held m 3 [c0] = some y0 at g0
      have g1 : DataW.trod enc Tryd.prog W 0 (fun _ => true) held m 4 (([c0, c1, c2, c3, c4, c5, c6].drop 1).take (Tryd.prog.cellsOf 4)) = some y1 := hg 1 _ rfl
      rw [cells4] at g1
      change DataW.trod enc Tryd.prog W 0 (fun _ => true) held m 4 [c1] = some y1 at g1
      have g2 : DataW.trod enc Tryd.prog W 0 (fun _ => true) held m 4 (([c0, c1, c2, c3, c4, c5, c6].drop 2).take (Tryd.prog.cellsOf 4)) = some y2 := hg 2 _ rfl
      rw [cells4] at g2
      change DataW.trod enc Tryd.prog W 0 (fun _ => true) held m 4 [c2] = some y2 at g2
      have g3 : DataW.trod enc Tryd.prog W 0 (fun _ => true) held m 4 (([c0, c1, c2, c3, c4, c5, c6].drop 3).take (Tryd.prog.cellsOf 4)) = some y3 := hg 3 _ rfl
      rw [cells4] at g3
      change DataW.trod enc Tryd.prog W 0 (fun _ => true) held m 4 [c3] = some y3 at g3
      have g4 : DataW.trod enc Tryd.prog W 0 (fun _ => true) held m 3 (([c0, c1, c2, c3, c4, c5, c6].drop 4).take (Tryd.prog.cellsOf 3)) = some y4 := hg 4 _ rfl
      rw [cells3] at g4
      change DataW.trod enc Tryd.prog W 0 (fun _ => true) held m 3 [c4] = some y4 at g4
      have g5 : DataW.trod enc Tryd.prog W 0 (fun _ => true) held m 52 (([c0, c1, c2, c3, c4, c5, c6].drop 5).take (Tryd.prog.cellsOf 52)) = some y5 := hg 5 _ rfl
      rw [cells48] at g5
      change DataW.trod enc Tryd.prog W 0 (fun _ => true) held m 52 [c5, c6] = some y5 at g5
      obtain ⟨k0, e0, f0, -⟩ := DataW.trod_int Tryd.underlying3 g0
      obtain ⟨k1, e1, f1⟩ := DataW.trod_bool Tryd.underlying4 g1
      obtain ⟨k2, e2, f2⟩ := DataW.trod_bool Tryd.underlying4 g2
      obtain ⟨k3, e3, f3⟩ := DataW.trod_bool Tryd.underlying4 g3
      obtain ⟨k4, e4, f4, -⟩ := DataW.trod_int Tryd.underlying3 g4
      obtain ⟨zs, m5, rfl, f5, -, hz2, hz⟩ := DataW.trod_array Tryd.underlying52 g5
      match zs, hz2 with
      | [z0, z1], _ =>
        have q0 := hz 0 (by omega)
        have q1 := hz 1 (by omega)
        rw [cells3] at q0 q1
        change DataW.trod enc Tryd.prog W 0 (fun _ => true) held m5 3 [c5] = some z0 at q0
        change DataW.trod enc Tryd.prog W 0 (fun _ => true) held m5 3 [c6] = some z1 at q1
        obtain ⟨k5, e5, p5, -⟩ := DataW.trod_int Tryd.underlying3 q0
        obtain ⟨k6, e6, p6, -⟩ := DataW.trod_int Tryd.underlying3 q1
        subst f0 f1 f2 f3 f4 f5 p5 p6
        simp only [shD, List.map_cons, List.map_nil, DataW.agg.injEq, List.cons.injEq, DataW.lit.injEq, Lit.int.injEq, Lit.bool.injEq, and_true, true_and] at hx
        simp only [List.cons.injEq, and_true] at e0 e1 e2 e3 e4 e5 e6
        obtain ⟨rfl, rfl, rfl, rfl, rfl, rfl, rfl⟩ := hx
        subst e0 e1 e2 e3 e4 e5 e6
        rfl
def laidT : List (String × DataW Unit) := [("ashlar/term.shapes", Rows.laid_ashlar_term_shapes)]
theorem gShapes : Tryd.prog.globalNamed "ashlar/term.shapes" = some 0 := by kernel_rfl
theorem tShapes : (Tryd.prog.globals[0]?).map (·.type) = some 55 := by kernel_rfl
set_option maxRecDepth 100000 in
theorem of_laid {W : World} (h : laidMetH Tryd.prog laidT W) : Shps W := by
  rw [MakeChecks.laidMetH_plain _ _ _ (by kernel_rfl)] at h
  obtain ⟨ps, ⟨g0, t0, cs0, f0, p0, q0, hg0, ht0, hv0, hd0, _, _⟩, _, _⟩ := h
  obtain rfl := Option.some.inj (gShapes.symm.trans hg0)
  obtain rfl := Option.some.inj (tShapes.symm.trans ht0)
  obtain ⟨xs, m, rfl, hx, hlen, hn, hel⟩ := DataW.trod_array Tryd.underlying55 hd0
  rw [cells50] at hel
  simp only [Prod.mk.injEq] at hx
  have hx1 := hx.1
  rw [laid_rows] at hx1
  simp only [DataW.agg.injEq] at hx1
  intro j hj
  have h1 := hel j hj
  rw [List.getElem?_eq_getElem (by omega)] at h1
  have h2 : (xs[j]'(by omega)).1 = shD (shRow j) := by
    have : (xs.map (·.1))[j]? = (shRows.map shD)[j]? := by rw [hx1]
    rw [List.getElem?_map, List.getElem?_map, List.getElem?_eq_getElem (by omega), List.getElem?_eq_getElem (show j < shRows.length from hj)] at this
    have h3 := Option.some.inj this
    show (fun x : DataW Unit × List MemPlace => x.1) xs[j] = _
    rw [h3]
    congr 1
    unfold shRow
    rw [List.getD_eq_getElem?_getD, List.getElem?_eq_getElem (show j < shRows.length from hj)]
    rfl
  have h4 := sh_open h1 h2
  have hcell : ∀ i, i < 7 → W.cell? ⟨0, j * 7 + i, none⟩ = ((cs0.toList.drop (j * 7)).take 7)[i]? := by
    intro i hi
    rw [List.getElem?_take, if_pos hi, List.getElem?_drop]
    have := World.var?_cell hg0 hv0 (j * 7 + i)
    simpa using this
  rw [h4] at hcell
  exact ⟨by simpa using hcell 0 (by omega), by simpa using hcell 1 (by omega), by simpa using hcell 2 (by omega), by simpa using hcell 3 (by omega), by simpa using hcell 4 (by omega), by simpa using hcell 5 (by omega), by simpa using hcell 6 (by omega)⟩
theorem own : ownKnob Tryd.prog.godebug = none := by kernel_rfl
set_option maxRecDepth 100000 in
theorem door_met (os : Os) (args : Array Value) : laidMetH Tryd.prog laidT ((World.doorLaid Tryd.prog 400 os).forCall (fun _ _ => 0) ⟨#[], args, []⟩).memory :=
  laidMetH_of_parts3 (fuel := 8) (laidMet_of_run' 8 (by kernel_rfl) (by kernel_rfl)) (by kernel_rfl) (by kernel_rfl)
end Go.Proofs.YtaibmdikimpooaaDoor
