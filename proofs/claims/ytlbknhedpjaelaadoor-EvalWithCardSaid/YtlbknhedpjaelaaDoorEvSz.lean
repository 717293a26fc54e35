/-
  How long the set of a value that came in can be.
-/
import Derived.Test.YtlbknhedpjaelaaDoorEvIn
import Derived.SizedLaws
namespace Go.Proofs.YtlbknhedpjaelaaDoor
open Go.ChangeShapes Go.WideShapes Go.ChangeAt Go.RowKit

theorem bool_bytes : Tryd.prog.bytesOf 4 = 1 := by kernel_rfl
theorem value_len {H : Type} {enc : TypeId × Value → H} {W : World} {V : Vl} {d : DataW H} {ps : List MemPlace}
    (h : DataW.Trod enc Tryd.prog W 0 (fun _ => true) true 41 V.val d ps) (hw : (d.weights Tryd.prog 41).all (· ≤ reachBytes) = true) : V.s.length ≤ 140737488355328 := by
  obtain ⟨fuel, hf⟩ := h
  obtain ⟨xs, m, rfl, hx, hlen, hxs, hg⟩ := DataW.trod_struct Tryd.underlying41 hf
  have hx4 : xs.length = 4 := hxs
  match xs, hx4 with
  | [y0, y1, y2, y3], _ =>
    have g3 : DataW.trod enc Tryd.prog W 0 (fun _ => true) true m 39 ((([.int .i64 V.sort, .int .i64 V.n, .bool V.b, .slice V.a V.s.length V.c] : List Value).drop 3).take (Tryd.prog.cellsOf 39)) = some y3 := hg 3 _ rfl
    rw [cells44] at g3
    change DataW.trod enc Tryd.prog W 0 (fun _ => true) true m 39 [.slice V.a V.s.length V.c] = some y3 at g3
    simp only [Prod.mk.injEq, List.map_cons, List.map_nil] at hx
    obtain ⟨rfl, -⟩ := hx
    rcases DataW.trod_slice Tryd.underlying39 g3 with ⟨e3, -⟩ | ⟨a, len, cap, elems, rest, m', rfl, e3, hy3, -, hl, hm, hel, -⟩
    · simp only [List.cons.injEq, Value.slice.injEq, and_true] at e3
      omega
    · simp only [List.cons.injEq, Value.slice.injEq, and_true] at e3
      obtain ⟨-, e4, -⟩ := e3
      subst hy3
      simp only [DataW.weights, Tryd.underlying41] at hw
      simp [DataW.weightsEach, DataW.weights, Tryd.underlying39, bool_bytes, reachBytes] at hw
      have := of_decide_eq_true hw.2.2.2.1
      omega
end Go.Proofs.YtlbknhedpjaelaaDoor
