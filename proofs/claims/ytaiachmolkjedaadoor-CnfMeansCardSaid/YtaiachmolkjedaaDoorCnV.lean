/-
  Rows of bools.
-/
import Derived.Test.YtaiachmolkjedaaDoorCnQ
namespace Go.Proofs.YtaiachmolkjedaaDoor
open Go.RowKit

def bls' (l : List Bool) : List Value := l.map Value.bool
theorem bool_info : (Tryd.prog.info? 4).map (fun i => (i.zero, i.size, i.bytes)) = some (some (.bool false), 1, 1) := by kernel_rfl
theorem made_bools (n : Nat) (h : n ≤ 100000) : ∃ cs : Array Value, cs.size = n * 1 ∧ cs.toList = bls' (List.replicate n false) ∧ ∀ w : World, (Instr.makeSlice 51 (.int .i64 (n : Int)) (.int .i64 (n : Int))).run Tryd.prog w = .ok (.slice (some ⟨w.heap.size, 0, none⟩) n n) (w.alloc (.cells cs 4)) := by
  obtain ⟨i0, hi, he⟩ := Option.map_eq_some_iff.1 bool_info
  simp only [Prod.mk.injEq] at he
  obtain ⟨hz0, hz1, hz2⟩ := he
  refine ⟨madeCells #[.bool false] (n * 1), size_madeCells _ _, ?_, fun w => ?_⟩
  · apply List.ext_getElem?
    intro j
    by_cases hj : j < n
    · simp [madeCells, bls', hj, Nat.mod_one]
    · simp [madeCells, bls', hj]
  · have hr := run_make (P := Tryd.prog) w 51 4 i0 _ Tryd.underlying51 hi hz0 .i64 .i64 (n : Int) (n : Int) (by omega) (Int.le_refl _) (by rw [hz2]; omega) (by omega)
    rw [hr, hz1, Int.toNat_natCast]
    rfl
/-- a row of bools of one's own -/
def BRow (w : World) (g n : Nat) (bs : List Bool) : Prop := w.ownsRow g 4 1 (.slice (some ⟨g, 0, none⟩) n n) n (bls' bs)
theorem BRow.len {w : World} {g n : Nat} {bs : List Bool} (h : BRow w g n bs) : bs.length = n := by have := h.1; simp [bls'] at this; omega
theorem BRow.cell {w : World} {g n : Nat} {bs : List Bool} (h : BRow w g n bs) (k : Nat) (hk : k < bs.length) : w.cell? ⟨g, k, none⟩ = some (.bool bs[k]) := by
  have h1 := h.len
  have h2 : w.cell? ⟨g, k, none⟩ = _ := World.ownsRow.cellAt h k (by omega)
  rw [h2]; simp [bls', hk]
theorem BRow.frozen {w : World} {g n : Nat} {bs : List Bool} (h : BRow w g n bs) (k : Nat) : w.frozen? ⟨g, k, none⟩ = false := World.ownsRow.frozenAt h k
theorem BRow.set {w : World} {g n : Nat} {bs : List Bool} (h : BRow w g n bs) (k : Nat) (x : Bool) : BRow (w.setCell ⟨g, k, none⟩ (.bool x)) g n (bs.set k x) := by
  have := (World.ownsRow.stored h k (.bool x)).1
  have e : (bls' bs).set k (.bool x) = bls' (bs.set k x) := by unfold bls'; rw [List.map_set]
  rw [e] at this
  exact this
theorem BRow.later {w w' : World} {g n : Nat} {bs : List Bool} (h : BRow w g n bs) (hb : Below w.heap.size w w') : BRow w' g n bs := own_lat' h hb
theorem fnd_self {A B : List Tm} (h : A.map Tm.er = B) (hd : Dis B) (k : Nat) (hk : k < A.length) : plc A A[k] = (k : Int) := by
  have hk' : k < B.length := by rw [← h, List.length_map]; exact hk
  have e : A[k].er = B[k] := by
    subst h
    simp
  have h1 : fnd A A[k] = k := by
    have h2 := hd k hk'
    rw [← e, fnd_er _ (er_er _), ← h, fnd_map] at h2
    exact h2
  unfold plc
  rw [if_pos ((has_iff A A[k]).2 (by rw [h1]; exact hk)), h1]
theorem getD_set {bs : List Bool} {i v : Nat} (h : bs.getD i false = true) : (bs.set v true).getD i false = true := by
  rw [List.getD_eq_getElem?_getD] at *
  rw [List.getElem?_set]
  split
  · split
    · rfl
    · rename_i h1 h2
      subst h1
      rw [List.getElem?_eq_none (by omega)] at h
      simp at h
  · exact h
theorem getD_new {bs : List Bool} {v v' : Nat} (h : v < bs.length) (e : v' = v) : (bs.set v true).getD v' false = true := by
  subst e
  rw [List.getD_eq_getElem?_getD, List.getElem?_set]
  simp [h]
end Go.Proofs.YtaiachmolkjedaaDoor
