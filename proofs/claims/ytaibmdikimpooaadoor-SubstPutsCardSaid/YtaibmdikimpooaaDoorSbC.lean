/-
  The map of what is put, keyed by a name and a sort.
-/
import Derived.Test.YtaibmdikimpooaaDoorSbA
import Derived.Maps.OwnSet
import Derived.Maps.Views
import Derived.DeepKeys4
namespace Go.Proofs.YtaibmdikimpooaaDoor
open Go.RowKit Go.Maps

theorem tgt_keyed : Maps.Keyed Tryd.prog 94 := Maps.Keyed.of_law (deep_law_laid (by kernel_rfl) (m := 5) (by decide) (of_decide_eq_true (by kernel_rfl)) (by kernel_rfl) (by kernel_rfl))
/-- a place where something can be put -/
def tgt (nm : ByteArray) (s : Int) : Value := .agg #[.string nm, .int .i64 s]
theorem tgt_type : Tryd.prog.keyType 94 = true := by kernel_rfl
theorem tgt_cells : Tryd.prog.cellsOf 94 = 2 ∧ Tryd.prog.cellsOf 9 = 1 ∧ Tryd.prog.cellsOf 3 = 1 := ⟨by kernel_rfl, by kernel_rfl, by kernel_rfl⟩
theorem tgt_size : ∃ m, Tryd.prog.types.size = m + 2 := ⟨Tryd.prog.types.size - 2, by kernel_rfl⟩
theorem tgt_key (nm : ByteArray) (s : Int) (hn : nm.size ≤ maxLen) (hs : fitB s = true) : ∃ kl, keyOf Tryd.prog 94 (tgt nm s) = some kl := by
  obtain ⟨m, hm⟩ := tgt_size
  obtain ⟨c1, c2, c3⟩ := tgt_cells
  have hw : (Lit.int .i64 s).wf = true := by
    rw [fitB_iff] at hs
    have h1 : IntKind.i64.min = -9223372036854775808 := by decide
    have h2 : IntKind.i64.max = 9223372036854775807 := by decide
    simp only [Lit.wf, h1, h2, Bool.and_eq_true, decide_eq_true_eq]
    omega
  have hform : (tgt nm s).formed Tryd.prog 94 = true := by
    simp [tgt, Value.formed, Tryd.underlying94, c1]
  refine ⟨.string (keyBytes [.string nm.data.toList, .int .i64 s]), ?_⟩
  unfold keyOf
  rw [Tryd.underlying94]
  simp only [tgt_type, hform, Bool.and_self, if_true, hm]
  simp [Program.keyLits, Tryd.underlying94, Tryd.underlying9, Tryd.underlying3, tgt, Value.cells, c1, c2, c3, hn, hw]
/-- an element of the map is told by itself -/
def RV (v : Value) : Option (DataW Value × List MemPlace) := some (.held v, [])
def zeroT : Value := .agg #[.int .i64 0, .string ⟨#[]⟩, .int .i64 0, .slice none 0 0]
theorem zeroT_run (w : World) : (zeroValue 24).run Tryd.prog w = .ok zeroT w := by
  obtain ⟨i0, hi0, hz0, -⟩ := tm_parts
  simp [zeroValue, typeInfo, hi0, hz0, zeroT, go_sem]
/-- block b is the map f -/
def PMap (w : World) (b n : Nat) (f : ByteArray → Int → Option Value) : Prop :=
  ∃ D : DataW Value, w.ownsMap Tryd.prog 94 RV b n D ∧ ∀ nm s kl, keyOf Tryd.prog 94 (tgt nm s) = some kl →
    (f nm s = none → has D kl = false ∧ ∀ z, D.atKey kl z = z) ∧ ∀ v, f nm s = some v → has D kl = true ∧ ∀ z, D.atKey kl z = .held v
set_option maxRecDepth 100000 in
theorem PMap.look {w : World} {b n : Nat} {f : ByteArray → Int → Option Value} (h : PMap w b n f) {nm : ByteArray} {s : Int} (hn : nm.size ≤ maxLen) (hs : fitB s = true) :
    (Instr.lookup 63 (.map (some b)) (tgt nm s) true).run Tryd.prog w = .ok (.tuple #[(f nm s).getD zeroT, .bool (f nm s).isSome]) w := by
  obtain ⟨D, hD, hf⟩ := h
  obtain ⟨kl, hk⟩ := tgt_key nm s hn hs
  obtain ⟨v, ps, hr, hv⟩ := hD.look_ok tgt_keyed Tryd.underlying63 (zeroT_run w) (zd := .held zeroT) (zp := []) rfl hk
  obtain ⟨h1, h2⟩ := hf nm s kl hk
  rw [hr]
  simp only [RV, Option.some.injEq, Prod.mk.injEq] at hv
  cases hfn : f nm s with
  | none =>
    obtain ⟨e1, e2⟩ := h1 hfn
    rw [e2] at hv
    have hv1 := hv.1
    injection hv1 with hv1
    simp only [e1, hv1, Option.getD_none, Option.isSome_none]
  | some x =>
    obtain ⟨e1, e2⟩ := h2 x hfn
    rw [e2] at hv
    have hv1 := hv.1
    injection hv1 with hv1
    simp only [e1, hv1, Option.getD_some, Option.isSome_some]
theorem PMap.made (w : World) : PMap (w.alloc (.map #[] 0)) w.heap.size 0 (fun _ _ => none) :=
  ⟨.map [], World.ownsMap_made w _ _ _, fun nm s kl _ => ⟨fun _ => ⟨rfl, fun z => rfl⟩, fun v h => by cases h⟩⟩
/-- one more is put -/
def putF (f : ByteArray → Int → Option Value) (nm : ByteArray) (s : Int) (v : Value) : ByteArray → Int → Option Value := fun n' s' => if n' = nm ∧ s' = s then some v else f n' s'
theorem PMap.put {w' : World} {b n : Nat} {f : ByteArray → Int → Option Value} {D : DataW Value} {nm : ByteArray} {s : Int} {kl : Lit} {v : Value} (hm : IsMap D) (hf : ∀ nm s kl, keyOf Tryd.prog 94 (tgt nm s) = some kl →
    (f nm s = none → has D kl = false ∧ ∀ z, D.atKey kl z = z) ∧ ∀ v, f nm s = some v → has D kl = true ∧ ∀ z, D.atKey kl z = .held v) (hk : keyOf Tryd.prog 94 (tgt nm s) = some kl)
    (hD : w'.ownsMap Tryd.prog 94 RV b (n + 1) (D.put kl (.held v))) : PMap w' b (n + 1) (putF f nm s v) := by
  refine ⟨_, hD, fun n' s' kl' hk' => ?_⟩
  by_cases e : n' = nm ∧ s' = s
  · obtain ⟨rfl, rfl⟩ := e
    rw [hk] at hk'
    cases hk'
    have hp : putF f n' s' v n' s' = some v := by simp [putF]
    rw [hp]
    refine ⟨fun h => (by cases h), fun x hx => ?_⟩
    cases hx
    exact ⟨has_put_same hm (tgt_keyed.key hk) _, fun z => atKey_put_same hm (tgt_keyed.key hk) _ _⟩
  · have hne : kl' ≠ kl := by
      rintro rfl
      have := tgt_keyed.inj hk hk'
      unfold tgt at this
      simp at this
      exact e ⟨this.1.symm, this.2.symm⟩
    have hp : putF f nm s v n' s' = f n' s' := by unfold putF; rw [if_neg e]
    rw [hp, has_put_other hne]
    obtain ⟨h1, h2⟩ := hf n' s' kl' hk'
    exact ⟨fun h => ⟨(h1 h).1, fun z => by rw [atKey_put_other hne]; exact (h1 h).2 z⟩, fun x hx => ⟨(h2 x hx).1, fun z => by rw [atKey_put_other hne]; exact (h2 x hx).2 z⟩⟩
end Go.Proofs.YtaibmdikimpooaaDoor
