/-
  The contracts of package num's 'attempt' and of the calls on whole numbers: Add, Sub, Mul, Neg, Gcd.
-/
import Derived.Test.YtlobffjgkhcjbaaDoorEvNuC
import Derived.Laws.Pointers
import Derived.Shelf.Abstract
namespace Go.Proofs.YtlobffjgkhcjbaaDoor.Nu
open Go.RowKit Go.Shelf

set_option maxHeartbeats 400000 in
theorem catchI_panicking (p q : Addr) (x : Int) (y : Bool) (u : TypeId) (pv : Value) (older : List PanicEntry) (w : World) (hc : w.cell? p = some (.int .i64 x)) (hz : w.frozen? p = false) (hc' : w.cell? q = some (.bool y)) (hz' : w.frozen? q = false) (hne : p ≠ q) :
    CallsD Tryd.prog 149 #[.pointer (some p), .pointer (some q)] (.panicking ({ v := .iface u pv, recovered := false } :: older)) w fun e u' w' =>
      e = .returned (.tuple #[]) ∧ u' = .panicking ({ v := .iface u pv, recovered := true } :: older) ∧ w' = (w.setCell p (.int .i64 0)).setCell q (.bool false) := by
  refine callsD_of_wpS Tryd.func149 rfl fun c₀ cs hu => ?_
  apply wpS_seq
  apply wpS_region
  simp [wpOpsS, go_sem, recoverD, hu, Tryd.ntmps149, Exit.thenS]
  refine wpS_cond (t := true) (by simp [Act.eval, Array.replicate]) ?_
  simp only [if_true]
  have c2 : (w.setCell p (.int .i64 0)).cell? q = some (.bool y) := by rw [World.cell?_setCell_other _ _ _ _ hne]; exact hc'
  apply wpS_seq
  apply wpS_region
  simp [wpOpsS, go_sem, Exit.thenS]
  apply wpS_region
  simp [wpOpsS, go_sem, hc, hz, c2, hz', bodyPostS, results, Tryd.results149]
set_option maxHeartbeats 400000 in
theorem catchI_idle (p q : Addr) (w : World) :
    CallsD Tryd.prog 149 #[.pointer (some p), .pointer (some q)] .returning w fun e u' w' =>
      e = .returned (.tuple #[]) ∧ u' = .returning ∧ w' = w := by
  refine callsD_of_wpS Tryd.func149 rfl fun c₀ cs hu => ?_
  apply wpS_seq
  apply wpS_region
  simp [wpOpsS, go_sem, recoverD, hu, Tryd.ntmps149, Exit.thenS]
  refine wpS_cond (t := false) (by simp [Act.eval, Array.replicate]) ?_
  simp only [Bool.false_eq_true, if_false]
  refine wpS_of_wp (wp_skip ?_)
  cases c₀
  simp_all [bodyPostS, results, Tryd.results149]

def tc (c : Bool) (n : Int) : Int := if c then n else 0
theorem tc_fit (n : Int) : tc (fitB n) n = tel n := rfl
set_option maxHeartbeats 400000 in
theorem attemptI_any (K : Nat) (p q : Addr) (c : Bool) (n : Int) (w : World)
    (henter : ∀ args w, (callFunc K args).run Tryd.prog w = .ok (.enter K args) w)
    (h : ∀ w1, Below w.heap.size w w1 → Calls Tryd.prog K #[.pointer (some p), .pointer (some q)] w1 (Out c (.int .i64 n) w1)) :
    Calls Tryd.prog 134 #[.func (.func K) #[] #[.pointer (some p), .pointer (some q)]] w fun e w' =>
      e = .returned (.tuple #[.int .i64 (tc c n), .bool c]) ∧ Below w.heap.size w w' := by
  have hmf : ∀ (fn : Fn) (first cap : Array Value) (w : World), (Instr.makeFunc fn first cap).run Tryd.prog w = .ok (.func fn first cap) w := fun _ _ _ _ => rfl
  have H := mkHid h; clear h
  go_enter_defers Tryd.func134, Tryd.ntmps134
  go_wp2_with fail
  refine (H.out _ (bal (bal (Below.refl _ _) _) _)).mono ?_
  rintro e w1 (⟨rfl, rfl, hb1⟩ | ⟨rfl, ⟨v, rfl⟩, hb1⟩)
  · obtain ⟨c0, f0⟩ : Single w1 w.heap.size (.int .i64 0) := Single.later hb1 (by simp [Single, go_sem])
    obtain ⟨c1, f1⟩ : Single w1 (w.heap.size + 1) (.bool false) := Single.later hb1 (by simp [Single, go_sem])
    go_wp2_with fail
    refine leaves_cons (f := 149) (args := #[.pointer (some ⟨w.heap.size, 0, none⟩), .pointer (some ⟨w.heap.size + 1, 0, none⟩)]) (by simp) (by simp [go_sem]) ?_
    refine (catchI_idle ⟨w.heap.size, 0, none⟩ ⟨w.heap.size + 1, 0, none⟩ _).mono ?_
    rintro e u' w'' ⟨rfl, rfl, rfl⟩
    simp [Leaves, settle, results, Tryd.results134, go_sem, c0, c1, tc]
    exact bset (bset (bon (bal (bal (Below.refl _ _) _) _) hb1) (by simp) _) (by simp) _
  · obtain ⟨c0, f0⟩ : Single w1 w.heap.size (.int .i64 0) := Single.later hb1 (by simp [Single, go_sem])
    obtain ⟨c1, f1⟩ : Single w1 (w.heap.size + 1) (.bool false) := Single.later hb1 (by simp [Single, go_sem])
    show bodyPostD _ _ _ _ _ _
    refine leaves_cons (f := 149) (args := #[.pointer (some ⟨w.heap.size, 0, none⟩), .pointer (some ⟨w.heap.size + 1, 0, none⟩)]) (by simp) (by simp [go_sem]) ?_
    refine (catchI_panicking ⟨w.heap.size, 0, none⟩ ⟨w.heap.size + 1, 0, none⟩ 0 false 9 v [] _ c0 f0 c1 f1 (by simp)).mono ?_
    rintro e u' w'' ⟨rfl, rfl, rfl⟩
    simp [Leaves, settle, results, Tryd.results134, go_sem, c0, c1, tc]
    exact bset (bset (bon (bal (bal (Below.refl _ _) _) _) hb1) (by simp) _) (by simp) _

/-! ### Add, Sub, Mul, Neg, Gcd -/
set_option maxHeartbeats 400000 in
theorem add_any (a b : Int) (w : World) (ha : fitB a = true) (hb : fitB b = true) :
    Calls Tryd.prog 121 #[.int .i64 a, .int .i64 b] w fun e w' => e = .returned (.tuple #[.int .i64 (tel (a + b)), .bool (fitB (a + b))]) ∧ Below w.heap.size w w' := by
  have hmf : ∀ (fn : Fn) (first cap : Array Value) (w : World), (Instr.makeFunc fn first cap).run Tryd.prog w = .ok (.func fn first cap) w := fun _ _ _ _ => rfl
  go_enter Tryd.func121, Tryd.ntmps121
  go_wp2_with fail
  refine (attemptI_any 138 ⟨w.heap.size, 0, none⟩ ⟨w.heap.size + 1, 0, none⟩ (fitB (a + b)) (a + b) _ (enters_of Tryd.func138 (by kernel_rfl) rfl) ?_).mono ?_
  · intro w1 hb1
    exact addC_any _ _ a b w1 ha hb (cell_later hb1 (by simp [go_sem])) (cell_later hb1 (by simp [go_sem]))
  rintro e w1 ⟨rfl, hb1⟩
  rw [tc_fit]
  go_wp2
  go_ret2
  exact ⟨rfl, bon (bal (bal (Below.refl _ _) _) _) hb1⟩
set_option maxHeartbeats 400000 in
theorem sub_any (a b : Int) (w : World) (ha : fitB a = true) (hb : fitB b = true) :
    Calls Tryd.prog 122 #[.int .i64 a, .int .i64 b] w fun e w' => e = .returned (.tuple #[.int .i64 (tel (a - b)), .bool (fitB (a - b))]) ∧ Below w.heap.size w w' := by
  have hmf : ∀ (fn : Fn) (first cap : Array Value) (w : World), (Instr.makeFunc fn first cap).run Tryd.prog w = .ok (.func fn first cap) w := fun _ _ _ _ => rfl
  go_enter Tryd.func122, Tryd.ntmps122
  go_wp2_with fail
  refine (attemptI_any 141 ⟨w.heap.size, 0, none⟩ ⟨w.heap.size + 1, 0, none⟩ (fitB (a - b)) (a - b) _ (enters_of Tryd.func141 (by kernel_rfl) rfl) ?_).mono ?_
  · intro w1 hb1
    exact subC_any _ _ a b w1 ha hb (cell_later hb1 (by simp [go_sem])) (cell_later hb1 (by simp [go_sem]))
  rintro e w1 ⟨rfl, hb1⟩
  rw [tc_fit]
  go_wp2
  go_ret2
  exact ⟨rfl, bon (bal (bal (Below.refl _ _) _) _) hb1⟩
set_option maxHeartbeats 400000 in
theorem mul_any (a b : Int) (w : World) (ha : fitB a = true) (hb : fitB b = true) :
    Calls Tryd.prog 120 #[.int .i64 a, .int .i64 b] w fun e w' => e = .returned (.tuple #[.int .i64 (tel (a * b)), .bool (fitB (a * b))]) ∧ Below w.heap.size w w' := by
  have hmf : ∀ (fn : Fn) (first cap : Array Value) (w : World), (Instr.makeFunc fn first cap).run Tryd.prog w = .ok (.func fn first cap) w := fun _ _ _ _ => rfl
  go_enter Tryd.func120, Tryd.ntmps120
  go_wp2_with fail
  refine (attemptI_any 135 ⟨w.heap.size, 0, none⟩ ⟨w.heap.size + 1, 0, none⟩ (fitB (a * b)) (a * b) _ (enters_of Tryd.func135 (by kernel_rfl) rfl) ?_).mono ?_
  · intro w1 hb1
    exact mulC_any _ _ a b w1 ha hb (cell_later hb1 (by simp [go_sem])) (cell_later hb1 (by simp [go_sem]))
  rintro e w1 ⟨rfl, hb1⟩
  rw [tc_fit]
  go_wp2
  go_ret2
  exact ⟨rfl, bon (bal (bal (Below.refl _ _) _) _) hb1⟩
end Go.Proofs.YtlobffjgkhcjbaaDoor.Nu
